import PyProof.Rows.All
import Wide.All
import OpenK.AllK
import Wide.FinOn
import Lean
import PyProof.EqAt
import PyProof.EqKinds
import PyProof.TupleCall
import PySem.Challenge.RW_dueworth_k27_rows_come_to
import Open.Tree
import Open.Head
section
set_option Elab.async false
set_option linter.all false
set_option maxRecDepth 100000
set_option maxHeartbeats 0
abbrev HK:=@PySem.wpAny_bind
abbrev HL:=@List.length_append
abbrev HM:=@List.length_map
abbrev HN:=@PySem.Heap.get?_push_of_some
abbrev HQ:=@List.size_toArray
abbrev HR:=@PySem.wpAny_pure
abbrev HS:=@PySem.Heap.lt_size
abbrev HU:=@Nat.le_refl
abbrev HV:=@List.mem_append
abbrev HW:=@List.mem_cons
abbrev HX:=@List.length_singleton
abbrev HY:=@List.getElem?_map
abbrev HZ:=@Bool.false_bne
abbrev Ia:=@PySem.Heap.get?_push_size
abbrev Ib:=@decide_eq_true_eq
abbrev Ic:=@Nat.lt_of_lt_of_le
abbrev Ie:=@Bool.false_eq_true
abbrev Ig:=@List.getElem?_eq_getElem
abbrev Ih:=@List.length_cons
abbrev Ii:=@Array.getElem?_eq_getElem
abbrev Ij:=@List.mem_singleton
abbrev Ik:=@Nat.le_trans
abbrev Il:=@List.not_mem_nil
abbrev Im:=@List.getElem?_eq_some_iff
abbrev Io:=@List.map_cons
abbrev Ip:=@Bool.false_ne_true
abbrev Iq:=@Nat.ne_of_lt
abbrev Ir:=@List.mem_of_getElem?
abbrev Iu:=@decide_eq_false
abbrev Iw:=@List.append_nil
abbrev Iz:=@List.map_append
abbrev IA:=@Nat.zero_le
abbrev IB:=@List.mem_append_right
abbrev IC:=@PyProof.Rows.callWith_type1
abbrev ID:=@List.mem_map
abbrev IE:=@PySem.wpAny_field
abbrev IF:=@List.getElem?_append_left
abbrev IG:=@List.length_take
abbrev II:=@PySem.PassesOwn.never
abbrev IJ:=@Option.map_eq_some_iff
abbrev IK:=@PyProof.Rows.slot_tuple_getitem
abbrev IL:=@List.length_replicate
abbrev IM:=@List.getElem?_append_right
abbrev IP:=@if_false
abbrev IQ:=@List.length_drop
abbrev IS:=@PySem.wpAny_callSpecial?_slot
abbrev IU:=@decide_eq_true
abbrev IV:=@if_true
abbrev IW:=@List.mem_of_mem_take
abbrev IY:=@Option.some.inj
abbrev IZ:=@List.replicate_succ
abbrev I9:=@congrArg
abbrev Ja:=@PySem.wpAny_newObj_type
abbrev Jb:=@List.map_nil
abbrev Jc:=@or_false
abbrev Jd:=@List.nodup_cons
abbrev Je:=@PySem.Heap.get?_update_other
abbrev Jf:=@PySem.Heap.get?_update_self
abbrev Jg:=@PySem.wpAny_seqItems
abbrev Jh:=@List.mem_cons_self
abbrev Ji:=@PySem.Calls.spliced_cons
abbrev Jj:=@PySem.wpAny_pyIter_tuple
abbrev Jk:=@List.mem_cons_of_mem
abbrev Jl:=@PySem.F.plain_extend_loop
abbrev Jm:=@List.nil_append
abbrev Jo:=@List.length_nil
abbrev Jp:=@decide_true
abbrev Jq:=@List.getElem?_eq_none
abbrev Jr:=@PySem.wpAny_Call_Name_kw
abbrev Js:=@PySem.wpAny_call_entry
abbrev Jt:=@PySem.wpAny_setField_rec
abbrev Ju:=@Nat.lt_irrefl
abbrev Jv:=@PySem.wpAny_holding
abbrev Jw:=@Bool.true_bne
abbrev Jx:=@PySem.Heap.size_push
abbrev Jy:=@PySem.Around.under_plainId
abbrev Jz:=@Nat.pow_le_pow_right
abbrev JA:=@List.getElem?_replicate
abbrev JB:=@List.append_assoc
abbrev JC:=@Int.eq_ofNat_of_zero_le
abbrev JD:=@PySem.F.slot_zip_next
abbrev JE:=@PySem.mem_of_lookup
abbrev JF:=@List.flatMap_append
abbrev JG:=@PySem.Calls.callWith_builtin
abbrev JH:=@List.map_map
abbrev JI:=@PyProof.Rows.assignInOrder_cons
abbrev JJ:=@PySem.F.slot_tuple_iterator_next
abbrev JK:=@Bool.not_false
abbrev JL:=@List.take_succ
abbrev JM:=@Ne.symm
abbrev JN:=@PySem.F.slot_dict_get
abbrev JO:=@PySem.wpAny_passesOwn
abbrev JP:=@List.mem_append_left
abbrev JQ:=@PySem.wpAny_truthy_bool
abbrev JR:=@PySem.Calls.spliced_nil
abbrev JS:=@Int.toNat_natCast
abbrev JT:=@List.flatten_cons
abbrev JU:=@PySem.wpAny_pyIter_list
abbrev JV:=@Int.mul_ediv_cancel_left
abbrev JW:=@Nat.le_add_right
abbrev JX:=@Int.fdiv_eq_ediv_of_dvd
abbrev JY:=@PySem.F.plainAttrs_list
abbrev JZ:=@List.take_length
abbrev J3:=@PySem.wpAny_mono
abbrev J4:=@PySem.tupleKind_room_in1
abbrev J5:=@Array.getElem?_eq_none
abbrev J6:=@List.take_of_length_le
abbrev J7:=@Nat.zero_add
abbrev J8:=@List.length_mapIdx
abbrev J9:=@Bool.eq_iff_iff
abbrev Ka:=@PySem.codeAny_builtin
abbrev Kc:=@List.dropLast_concat_getLast
abbrev Kd:=@List.map_take
abbrev Ke:=@PySem.builtinLookup_eq_fast
abbrev Kf:=@List.length_filter_le
abbrev Kg:=@Bool.and_eq_true_iff
abbrev Kh:=@List.mem_range
abbrev Kl:=@PySem.Calls.evalArgs_plain
abbrev Km:=@List.mem_of_mem_drop
abbrev Kn:=@List.getElem?_mapIdx
abbrev Ko:=@Array.getElem?_eq_some_iff
abbrev Kp:=@true_and
abbrev Kq:=@Nat.not_le
abbrev Kr:=@Nat.ne_of_gt
abbrev Ks:=@List.getElem_mem
abbrev Ku:=@List.mem_flatMap
abbrev Kv:=@List.getElem?_zip_eq_some
abbrev Kw:=@List.getElem?_range
abbrev Ky:=@PySem.F.args_tuple_add_2
abbrev Kz:=@PySem.plainId_quiet
abbrev KA:=@PySem.wpAny_updateSeq
abbrev KC:=@List.forIn_cons
abbrev KG:=@PySem.wpAny_loadPart'
abbrev KH:=@PySem.wpAny_rule
abbrev KJ:=@PySem.call_meets
abbrev KL:=@Nat.lt_of_le_of_lt
abbrev KN:=@List.filter_append
abbrev KO:=@PySem.F.entry_tuple_add
abbrev KP:=@PySem.F.args_dict_get_3
abbrev KQ:=@Nat.le_of_lt
abbrev KR:=@PySem.wpAny_bindName
abbrev KS:=@PySem.F.slot_tuple_add
abbrev KU:=@PySem.wpAny_typeOf
abbrev KW:=@List.reverse_cons
abbrev KY:=@PySem.F.entry_dict_get
abbrev KZ:=@PySem.wpAny_nextOf_list_item
abbrev K0:=@PySem.F.args_zip_next_1
abbrev K1:=@PySem.wpAny_pyIter_enum
abbrev K3:=@decide_false
abbrev K4:=@List.eraseIdxIfInBounds_toArray
abbrev K5:=@Nat.le_of_ble_eq_true
abbrev K6:=@List.all_eq_true
abbrev K7:=@PySem.F.entry_zip_next
abbrev K8:=@PySem.Heap.size_update
abbrev K9:=@List.filter_cons
abbrev La:=@List.any_cons
abbrev Lb:=@Bool.not_true
abbrev Lc:=@PySem.wpAny_updateSeq_pair
abbrev Ld:=@List.mem_filter
abbrev Le:=@PySem.wpAny_execs_nil
abbrev Lf:=@List.of_mem_zip
abbrev Lg:=@PySem.typeLookup_type
abbrev Lh:=@PySem.wpAny_specialOf
abbrev Li:=@Int.natCast_pos
abbrev Lj:=@List.filterMap_cons
abbrev Lk:=@Array.length_toList
abbrev Ll:=@PySem.F.entry_extend_loop
abbrev Lm:=@Int.le_of_lt
abbrev Ln:=@List.getElem?_drop
abbrev Lo:=@List.nodup_nil
abbrev Lp:=@Int.emod_lt_of_pos
abbrev Lq:=@List.take_sublist
abbrev Lr:=@Option.isSome_map
abbrev Ls:=@Option.some.injEq
abbrev Lu:=@List.length_range
abbrev Lv:=@Bool.and_true
abbrev Lw:=@PySem.W.mg_of
abbrev Lx:=@Nat.lt_trans
abbrev Ly:=@Nat.le_of_eq
namespace ET
open PySem PySem.W PyProof.Rows
def fU(tb:String→Option Builtin)(p:Program)(w:World)(n₀:Nat)(ann:Option Value):Nat→SharedT→Thread→Option SharedT
 |0,_,_=>none
 |n+1,s,t=>match through t with
  |true=>some s
  |false=>match stepOk n₀ ann t with
   |false=>none
   |true=>match stepT (denote tb) p w s t with
    |some x=>fU tb p w n₀ ann n x.1 x.2
    |none=>none
theorem jN{tb:String→Option Builtin}{p:Program}{w:World}{n₀:Nat}{ann:Option Value}:∀{n:Nat} {s s':SharedT} {t:Thread},fU tb p w n₀ ann n s t=some s'→topRun tb p w n₀ ann n s.abs t=some s'.abs
 |0,_,_,_,h=>by cases h
 |n+1,s,s',t,h=>by
  unfold fU at h
  unfold topRun
  cases he:through t with
  |true=>rw[he]at h;cases h;rfl
  |false=>
   rw[he]at h
   cases hk:stepOk n₀ ann t with
   |false=>rw[hk]at h;cases h
   |true=>
    rw[hk]at h
    cases hs:stepT (denote tb) p w s t with
    |none=>rw[hs]at h;cases h
    |some r=>rw[hs]at h;rw[stepT_spec hs];exact jN h
def v6:List Obj→BT→Nat→Option (BT×Nat)
 |[],t,n=>some (t,n)
 |o::os,t,n=>match ((t.ins n o).get n).isSome with
  |true=>v6 os (t.ins n o) (n+1)
  |false=>none
theorem mI{life:Life}:∀{os:List Obj} {t t':BT} {n n':Nat},v6 os t n=some (t',n')→absHeap t' n' life=⟨(absHeap t n life).objs++os.toArray,life⟩
 |[],t,t',n,n',h=>by cases h;simp[absHeap]
 |o::os,t,t',n,n',h=>by
  unfold v6 at h
  cases g:((t.ins n o).get n).isSome with
  |false=>rw[g]at h;cases h
  |true=>
   rw[g]at h
   rw[mI h,absHeap_ins g]
   simp[Heap.push]
def fV(tb:String→Option Builtin)(p:Program)(w:World)(N:Nat)(s₀:Shared):Option Shared:=
 match s₀.heap.isNs mainGlobals&&s₀.gens.size == 0 with
 |true=>match v6 s₀.heap.objs.toList .nil 0 with
  |some x=>match fU tb p w x.2 (s₀.heap.nsMap mainGlobals "__annotations__") N ⟨x.1,x.2,s₀.heap.life,s₀.gens,s₀.drawn,s₀.toks,s₀.os⟩ (topStub p)with
   |some s=>match staticsOk (importedModules p.main.body) s₀.heap s.abs.heap&&namesBound p s.abs.heap&&gensDone s.abs&&laidKept s₀.heap s.abs.heap with
    |true=>some s.abs
    |false=>none
   |none=>none
  |none=>none
 |false=>none
theorem lR{tb:String→Option Builtin}{p:Program}{w:World}{N:Nat}{s₀ s:Shared}(h:fV tb p w N s₀=some s):topFrom tb p w N s₀=some s:=by
 unfold fV at h
 unfold topFrom
 cases h1:s₀.heap.isNs mainGlobals&&s₀.gens.size == 0 with
 |false=>rw[h1]at h;cases h
 |true=>
  rw[h1]at h
  dsimp only at h ⊢
  cases h2:v6 s₀.heap.objs.toList .nil 0 with
  |none=>rw[h2]at h;cases h
  |some x=>
   rw[h2]at h
   dsimp only at h
   have e:=mI (life:=s₀.heap.life) h2
   have e':absHeap x.1 x.2 s₀.heap.life=s₀.heap:=by
    rw[e]
    simp[absHeap,BT.list]
   have n':x.2=s₀.heap.objs.size:=by rw[←e',absHeap_size]
   cases h3:fU tb p w x.2 (s₀.heap.nsMap mainGlobals "__annotations__") N ⟨x.1,x.2,s₀.heap.life,s₀.gens,s₀.drawn,s₀.toks,s₀.os⟩ (topStub p)with
   |none=>rw[h3]at h;cases h
   |some r=>
    rw[h3]at h
    dsimp only at h
    have ea:SharedT.abs ⟨x.1,x.2,s₀.heap.life,s₀.gens,s₀.drawn,s₀.toks,s₀.os⟩=s₀:=by
     unfold SharedT.abs
     rw[e']
    have:=jN h3
    rw[ea,n']at this
    rw[this]
    exact h
theorem lS{tb:String→Option Builtin}{p:Program}{w:World}{N:Nat}{s₀:Shared}{α:Type}{f:Shared→α}{a:α}(h:Option.map f (fV tb p w N s₀)=some a):Option.map f (topFrom tb p w N s₀)=some a:=by
 obtain⟨s,h1,h2⟩:=IJ.mp h
 rw[lR h1]
 exact I9 some h2
def seenT(p q:Program)(loose:List Str)(Xt:Shared→Bool){α:Type}(Yf:Shared→α)(N:Nat)(u u':World):=
 Option.map (fun c=>Option.map (fun s=>(openSeen q loose (importedModules p.main.body) Xt true s,Yf s)) (fV treeTable p u' N c)) (fencedOpening treeTable p u N)
lay_quick seenT
theorem mJ{p q:Program}{loose:List Str}{Xt:Shared→Bool}{α:Type}{Yf:Shared→α}{N:Nat}{u u':World}{r}(h:PySem.W.Fast.tw2787559817927863336 p q loose Xt Yf N u u'=r):seenT p q loose Xt Yf N u u'=r:=by
 rw[PySem.W.Fast.te2787559817927863336]
 exact h
theorem xM{p q:Program}{loose:List Str}{Xt:Shared→Bool}{α:Type}{Yf:Shared→α}{Ya:World→α}{N:Nat}
  (h:∀u:World,seenT p q loose Xt Yf N u u=some (some (openGood q loose,Ya u))):LeftO p q loose Xt Yf Ya N:=fun u=>by
 obtain⟨c,a,b⟩:=IJ.mp (h u)
 unfold openEnds
 rw[a]
 exact lS b
theorem oJ{p q:Program}{loose:List Str}{Xt:Shared→Bool}{α:Type}{Yf:Shared→α}{Ya:World→α}{N:Nat}(row:String)
  (h0:∀u:World,seenT p q loose Xt Yf N u (u.withFollow row false)=some (some (openGood q loose,Ya (u.withFollow row false))))
  (h1:∀u:World,seenT p q loose Xt Yf N u (u.withFollow row true)=some (some (openGood q loose,Ya (u.withFollow row true)))):LeftO p q loose Xt Yf Ya N:=fun u=>by
 obtain⟨c,a,b⟩:=IJ.mp (h0 u)
 obtain⟨c',a',b'⟩:=IJ.mp (h1 u)
 have hc:c'=c:=by rw[a]at a';cases a';rfl
 subst hc
 have b:=lS b
 have b':=lS b'
 have hu:=World.withFollow_self u row
 unfold openEnds
 rw[a]
 cases hb:u.params.followText row<;>rw[hb]at hu
 ·rw[hu]at b
  exact b
 ·rw[hu]at b'
  exact b'
end ET
namespace E27
open PySem PySem.W PyProof.Rows
abbrev tp(i:Nat):Stmt:=PySem.Challenge.pw_dueworth_k27_rows_come_to.main.body.getD i (.Pass ⟨0,0,0,0⟩)
/-- the text without what says nothing -/
def vw:Program:={ PySem.Challenge.pw_dueworth_k27_rows_come_to with main:={ PySem.Challenge.pw_dueworth_k27_rows_come_to.main with body:=[tp 1,tp 2,tp 3,tp 4,tp 6,tp 8,tp 9,tp 12,tp 13,tp 14,tp 16,tp 17,tp 19,tp 20,tp 21,tp 22,tp 23,tp 24,tp 25,tp 26,tp 27,tp 28,tp 29,tp 30,tp 31,tp 32,tp 33,tp 34,tp 35,tp 36,tp 37,tp 38,tp 39] } }
abbrev rr:RowW:=OpenRow.toRowW (OpenLaw.row PySem.Challenge.rw_dueworth_k27_rows_come_to)
local macro_rules | `(tactic| o_head $H)=>`(tactic|
 refine holds_open (q:=vw) (loose:=["SIDES_FROM","parts_reached"]) (Xt:=fun s=>(xlAt vw [] s&&recOk (RowW.records rr) s)) (XP:=XL vw []) (N:=2350)
  (Yf:=Hook.obs $H) (Ya:=Hook.val $H) (YP:=Hook.says $H) ?hl (Hook.of $H) (Hook.keeps $H) (fun s e=>xl_of s (Kg.mp e).1)
  XL.keeps rfl rfl rfl (fun s e=>recFacts_of (Kg.mp e).2) rfl (by assumption)
  (by decide +kernel) ⟨rfl,rfl,rfl,rfl,rfl,by decide +kernel⟩ ?hw ?hc)
/-- the law is well said: by the quick twin of the look,with no twin of the program -/
theorem said:OpenLaw.wellSaid PySem.Challenge.rw_dueworth_k27_rows_come_to=true:=(congrFun PySem.W.Fast.te9446332074065402090 _).trans (by kernel_rfl)
/-- says nothing; what lies in the heap is written down by the way -/
theorem early(h:∀P:Prop,P):PySem.Challenge.rw_dueworth_k27_rows_come_to.Holds:=by
 w_on;refine holds_law said fun said=>?_;k_head
 all_goals exact h _
abbrev as:List Addr:=[2,3,15,16,18,19,21,22,23,25,26,28,29,30,32,33,35,36,37,39,40,42,43,44,46,47,49,50,51,53,54,56,57,58,59,61,62,64,65,66,68,69,71,72,73,75,76,78,79,80,83,84,85,88,89,90,93,94,95,98,99,100,102,103,105,106,107,110,111,112,114,115,117,118,119,121,122,124,125,126,128,129,131,132,133,135,136,138,139,140,142,143,145,146,147,149,150,152,153,154,156,157,159,160,161,164,165,166,168,169,171,172,173,175,176,178,179,180,183,184,185,187,188,190,191,192,195,196,197,200,201,202,204,205,207,208,209,212,213,214,216,217,219,220,221,224,225]
theorem zg(P:Params):as=(early.heap_1 P).map (·.1):=by kernel_rfl
noncomputable abbrev hk:Hook:=kHook early.heap_1 as zg
theorem v7(u:World):ET.seenT (OpenLaw.row PySem.Challenge.rw_dueworth_k27_rows_come_to).prog vw ["SIDES_FROM","parts_reached"] (fun s=>(xlAt vw [] s&&recOk (RowW.records rr) s)) (Hook.obs hk) 2350 u (u.withFollow "special-get-raises" false)=some (some (openGood vw ["SIDES_FROM","parts_reached"],Hook.val hk (u.withFollow "special-get-raises" false))):=ET.mJ (by kernel_rfl)
theorem v8(u:World):ET.seenT (OpenLaw.row PySem.Challenge.rw_dueworth_k27_rows_come_to).prog vw ["SIDES_FROM","parts_reached"] (fun s=>(xlAt vw [] s&&recOk (RowW.records rr) s)) (Hook.obs hk) 2350 u (u.withFollow "special-get-raises" true)=some (some (openGood vw ["SIDES_FROM","parts_reached"],Hook.val hk (u.withFollow "special-get-raises" true))):=ET.mJ (by kernel_rfl)
theorem left:LeftO (OpenLaw.row PySem.Challenge.rw_dueworth_k27_rows_come_to).prog vw ["SIDES_FROM","parts_reached"] (fun s=>(xlAt vw [] s&&recOk (RowW.records rr) s)) (Hook.obs hk) (Hook.val hk) 2350:=ET.oJ "special-get-raises" v7 v8
end E27
end
open PySem in
abbrev Vq:=Value->Shared->Prop
open PySem in
abbrev Va:=List (Addr×Obj)
open PySem in
abbrev Vo:=PySem.W.Frag
open PySem in
abbrev Vr:=Str->Option Value
open PySem in
abbrev Vs:=List Str
open PySem in
abbrev Vu:=List Int
open PySem in
abbrev Vv:=List Value
open PySem in
abbrev Vw:=Array Value
set_option Elab.async false
set_option linter.all false
set_option maxRecDepth 100000
namespace L2
open PySem PySem.Spec PyProof.Rows
abbrev ba:=Sum Int Str
noncomputable def jO:ba->Value->Bool
 | .inl k,v=>Value.isInt k v
 | .inr x,v=>Value.isStrOf x v
noncomputable def yb(w:World):ba->Int
 | .inl k=>hashInt k
 | .inr x=>hashStr w x
theorem bb:∀{k:ba} {v:Value},jO k v=true->(∃i t,k=Sum.inl i/\v=Value.int i t)\/(∃x t,k=Sum.inr x/\v=Value.str x t)
 | .inl i,v,h=>by
  obtain⟨t,e⟩:=Value.isInt_shape (k:=i) (v:=v) h
  exact .inl ⟨i,t,rfl,e⟩
 | .inr x,v,h=>by
  obtain⟨t,e⟩:=Value.isStrOf_shape (x:=x) (v:=v) h
  exact .inr ⟨x,t,rfl,e⟩
def ny(i:Int)(t:Tok):jO (.inl i) (.int i t)=true:=by simp[jO,Value.isInt]
def gD(x:Str)(t:Tok):jO (.inr x) (.str x t)=true:=by simp[jO,Value.isStrOf]
def t9(a b:Int):decide ((Sum.inl a:ba)=Sum.inl b)=(a == b):=by
 by_cases e:a=b
 ·subst e;simp
 ·have h:¬(Sum.inl a:ba)=Sum.inl b:=fun q=>e (Sum.inl.inj q)
  rw[Iu h]
  exact(beq_eq_false_iff_ne.mpr e).symm
def t_(a b:Str):decide ((Sum.inr a:ba)=Sum.inr b)=decide (a=b):=by
 by_cases e:a=b
 ·subst e;simp
 ·have h:¬(Sum.inr a:ba)=Sum.inr b:=fun q=>e (Sum.inr.inj q)
  rw[Iu h,Iu e]
def ua(a:Int)(b:Str):decide ((Sum.inl a:ba)=Sum.inr b)=false:=Iu (fun q=>nomatch q)
def ub(a:Str)(b:Int):decide ((Sum.inr a:ba)=Sum.inl b)=false:=Iu (fun q=>nomatch q)
noncomputable def aK(prog:Program)(w:World):PySem.KeyKind prog w ba where
 is:=jO
 hash:=yb w
 inj:=fun v a b ha hb=>by
  rcases bb ha with⟨i,t,rfl,rfl⟩|⟨x,t,rfl,rfl⟩
  ·rcases bb hb with⟨j,u,rfl,e⟩|⟨y,u,rfl,e⟩
   ·injection e with e1 _;rw[e1]
   ·exact nomatch e
  ·rcases bb hb with⟨j,u,rfl,e⟩|⟨y,u,rfl,e⟩
   ·exact nomatch e
   ·injection e with e1 _;rw[e1]
 byValue:=fun k v h=>by
  rcases bb h with⟨i,t,rfl,rfl⟩|⟨x,t,rfl,rfl⟩<;>rfl
 pyHash:=fun hv h=>by
  rcases bb hv with⟨i,t,rfl,rfl⟩|⟨x,t,rfl,rfl⟩
  ·exact wpAny_pyHash_int h
  ·exact wpAny_pyHash_str h
 eqBool:=fun hu hv h=>by
  rcases bb hu with⟨i,t,rfl,rfl⟩|⟨x,t,rfl,rfl⟩
  ·rcases bb hv with⟨j,u,rfl,rfl⟩|⟨y,u,rfl,rfl⟩
   ·rw[t9]at h;exact wpAny_eqBool_int h
   ·rw[ua]at h;exact SeqAt.EqAt.int_str i t y u _ _ _ _ h
  ·rcases bb hv with⟨j,u,rfl,rfl⟩|⟨y,u,rfl,rfl⟩
   ·rw[ub]at h;exact SeqAt.EqAt.str_int x t j u _ _ _ _ h
   ·rw[t_]at h;exact wpAny_eqBool_str h
 «strs»:=fun k x t v h=>by
  rcases bb h with⟨i,u,rfl,e⟩|⟨y,u,rfl,e⟩
  ·exact nomatch e
  ·injection e with e1 _
   subst e1
   cases v<;>rfl
def k5(prog:Program)(w:World)(i:Int)(t:Tok):(aK prog w).is (.inl i) (.int i t)=true:=ny i t
def k6(prog:Program)(w:World)(x:Str)(t:Tok):(aK prog w).is (.inr x) (.str x t)=true:=gD x t
inductive V where
 |non|bl (b:Bool)|int (i:Int)|str (x:Str)|Dc (b:Array UInt8)|Fk (b:UInt64)|ref (a:Addr)|ty (n:String)
 deriving DecidableEq
noncomputable def RelV:V->Value->Prop
 | .non,u=>u=Value.none
 | .bl b,u=>u=Value.bool b
 | .int i,u=>∃t,u=Value.int i t
 | .str x,u=>∃t,u=Value.str x t
 | .Dc b,u=>∃t,u=Value.bytes b t
 | .Fk b,u=>∃t,u=Value.float b t
 | .ref a,u=>u=Value.ref a
 | .ty n,u=>u=Value.type n
noncomputable abbrev Vals:List V->List Value->Prop:=Paired RelV
theorem Vals.length{xs:List V}{us:Vv}(r:Vals xs us):xs.length=us.length:=Paired.length r
theorem Vals.get:∀{xs:List V} {us:Vv} {i:Nat} {x:V},Vals xs us->xs[i]?=some x->∃u,us[i]?=some u/\RelV x u
 |_,_,_,_,.nil,e=>by simp at e
 |_,_,0,_,.cons r _,e=>by simp at e;subst e;exact⟨_,rfl,r⟩
 |_,_,i+1,x,.cons _ t,e=>by
  obtain⟨u,h1,h2⟩:=Vals.get (i:=i) (x:=x) t (by simpa using e)
  exact⟨u,by simpa using h1,h2⟩
theorem Vals.set{x:V}{u:Value}(r:RelV x u):∀{xs:List V} {us:Vv} (i:Nat),Vals xs us->Vals (xs.set i x) (us.set i u)
 |_,_,_,.nil=>.nil
 |_,_,0,.cons _ t=>.cons r t
 |_,_,i+1,.cons q t=>.cons q (Vals.set r i t)
theorem Vals.append:∀{xs ys:List V} {us ws:Vv},Vals xs us->Vals ys ws->Vals (xs++ys) (us++ws)
 |_,_,_,_,.nil,s=>s
 |_,_,_,_,.cons r t,s=>.cons r (Vals.append t s)
theorem Vals.take:∀{xs:List V} {us:Vv} (n:Nat),Vals xs us->Vals (xs.take n) (us.take n)
 |_,_,0,_=>.nil
 |_,_,_+1,.nil=>.nil
 |_,_,n+1,.cons r t=>.cons r (Vals.take n t)
theorem Vals.drop:∀{xs:List V} {us:Vv} (n:Nat),Vals xs us->Vals (xs.drop n) (us.drop n)
 |_,_,0,r=>r
 |_,_,_+1,.nil=>.nil
 |_,_,n+1,.cons _ t=>Vals.drop n t
noncomputable def RelO:Option V->Option Value->Prop
 |some v,some u=>RelV v u
 |none,none=>True
 |_,_=>False
noncomputable def KV{κ:Type}:List (κ×V)->List (κ×Value)->Prop:=Paired fun(p:κ×V) (q:κ×Value)=>p.1=q.1/\RelV p.2 q.2
noncomputable def kV:ba->V
 | .inl i=>.int i
 | .inr x=>.str x
inductive HO where
 /-- a list -/
 |lst (xs:List V)
 /-- a tuple (never changes) -/
 |tup (xs:List V)
 /-- a dict whose keys are ints and texts; one whose keys are tuples of ints and texts (the empty one is both) -/
 |dK (kvs:List (ba×V))|dT (kvs:List (List ba×V))
 /-- a set of ints: its members,its size -/
 |set (S:Int->Bool) (n:Nat)
 /-- an instance of the class at C,its dict at dx,its attributes -/
 |ins (C dx:Addr) (fs:List (Str×V))
 /-- the dict of the instance at x -/
 |own (x:Addr)
 /-- the dict of an exception -/
 |xd (fs:List (Str×V))
 /-- a bound method,f of x -/
 |met (f x:Addr)
 /-- a range object lo,lo + 1,.. below hi -/
 |Fl (lo hi:Int)
 /-- a thing that is known to the object (the script; a dict while a loop walks it): read,never written while it is so -/
 |frz (o:Obj) (u:HO)
 /-- a code object's table -/
 |DY (ps:Vw)
 /-- any other thing,by what is true of its one object (a def of Ge own: GT a S n:=HO.ext fun h=>..) -/
 |ext (φ:Heap->Prop)
abbrev Hp:=Addr->Option HO
noncomputable def upd(H:Hp)(a:Addr)(o:HO):Hp:=fun b=>if b=a then some o else H b
def ax{H:Hp}{a:Addr}{o:HO}:upd H a o a=some o:=by unfold upd;rw[if_pos rfl]
def av{H:Hp}{a b:Addr}{o:HO}(h:b≠a):upd H a o b=H b:=by unfold upd;rw[if_neg h]
def v9{H:Hp}{a b:Addr}{o u:HO}(h:H a=some o)(h':H b=some u)(d:o≠u):a≠b:=by
 intro e;subst e;rw[h]at h';exact d (IY h')
def aM{H:Hp}{a b:Addr}{o:HO}(h:H a=some o)(h':H b=none):a≠b:=by
 intro e;subst e;rw[h]at h';cases h'
def As(h:Heap)(a:Addr)(its:Vw):Prop:=∃o,h.get? a=some o/\o.dict=none/\o.cls = .type "tuple"/\∃n,o.data = .seq its n
def As.tup{h:Heap}{a:Addr}{its:Vw}(x:As h a its):IsTup h a its:=let ⟨o,e,_,c,d⟩:=x;⟨o,e,c,d⟩
def As.new(h:Heap)(its:Vw):As (h.push { cls:=.type "tuple",data:=.seq its }) h.objs.size its:=⟨_,Ia _ rfl,rfl,rfl,_,rfl⟩
section
variable (P:Program) (w:World)
noncomputable def Am(H:Hp)(h:Heap)(a:Addr):HO->Prop
 | .lst xs=>xs.length<=sizeLine/\∃(its:Vv) (n:Nat),Vals xs its/\h.get? a=some { cls:=.type "list",data:=.seq its.toArray n }
 | .tup xs=>xs.length<=sizeLine/\∃its:List Value,Vals xs its/\As h a its.toArray
 | .dK kvs=>kvs.length<=sizeLine/\(a == sysModules)=false/\∃vs,KV kvs vs/\h.DictOf (aK P w) a vs
 | .dT kvs=>kvs.length<=sizeLine/\(a == sysModules)=false/\∃xs:List (List ba×Addr×Value),
   Paired (fun(p:List ba×V) (q:List ba×Addr×Value)=>p.1=q.1/\H q.2.1=some (.tup (p.1.map kV))/\RelV p.2 q.2.2) kvs xs/\
   ∃o es ep,h.get? a=some o/\o.ExactDict/\o.data = .dict es ep/\es.toList=xs.map (entryOfKey (tupleKind (aK P w)))/\(xs.map (·.1)).Nodup
 | .set S n=>h.SetOf (intKind P w) a S n
 | .ins C dx fs=>H dx=some (.own a)/\fs.length<=1000/\dx≠a/\h.get? a=some (PySem.W.instObj C dx)/\
   ∃mA,h.Ns1 dx mA/\(∀f,RelO (fs.lookup f) (mA f))/\PySem.Within mA (fs.map (·.1))
 | .own _=>∃o,h.get? a=some o
 | .xd fs=>∃mA,h.Ns1 a mA/\∀f,RelO (fs.lookup f) (mA f)
 | .Fl lo hi=>∃t u v,h.get? a=some { cls:=.type "range",data:=.fields #[.int lo t,.int hi u,.int 1 v] }
 | .frz o u=>h.get? a=some o/\Am H h a u
 | .DY ps=>h.get? a=some { cls:=.none,data:=.fields ps }
 | .met f x=>h.get? a=some (PySem.W.methodObj (.ref f) (.ref x))
 | .ext φ=>φ h/\(∃o,h.get? a=some o)/\∀h1 h2:Heap,φ h1->(∀o,h1.get? a=some o->h2.get? a=some o)->φ h2
def Bx(H:Hp)(h:Heap):Prop:=∀a o,H a=some o->Am P w H h a o
end
section
variable {P:Program} {w:World} {H H':Hp} {h h':Heap} {a:Addr} {o:HO}
theorem Am.lt(x:Am P w H h a o):a < h.objs.size:=by
 cases o with
 |lst xs=>obtain⟨_,_,_,_,e⟩:=x;exact HS e
 |tup xs=>obtain⟨_,_,_,p⟩:=x;exact p.tup.lt
 |dK kvs=>obtain⟨_,_,_,_,o,_,_,e,_⟩:=x;exact HS e
 |dT kvs=>obtain⟨_,_,_,_,o,_,_,e,_⟩:=x;exact HS e
 |set S n=>obtain⟨o,_,_,_,e,_⟩:=x;exact HS e
 |ins C dx fs=>obtain⟨_,_,_,e,_⟩:=x;exact HS e
 |own y=>obtain⟨_,e⟩:=x;exact HS e
 |xd fs=>obtain⟨_,⟨_,_,_,e,_⟩,_⟩:=x;exact HS e
 |Fl lo hi=>obtain⟨_,_,_,e⟩:=x;exact HS e
 |frz ob u=>obtain⟨e,_⟩:=x;exact HS e
 |DY ps=>exact HS (show h.get? a=some _ from x)
 |met f y=>exact HS (show h.get? a=some _ from x)
 |ext φ=>obtain⟨_,⟨_,e⟩,_⟩:=x;exact HS e
theorem Paired.DZ{α β:Type}{F G:α->β->Prop}:∀{l₁:List α} {l₂:List β},Paired F l₁ l₂->(∀a b,F a b->G a b)->Paired G l₁ l₂
 |_,_,.nil,_=>.nil
 |_,_,.cons r t,f=>.cons (f _ _ r) (Paired.DZ t f)
def Am.stay(x:Am P w H h a o)(k:∀b u,(b=a\/H b=some (.own a))->h.get? b=some u->h'.get? b=some u)
  (ho:∀b,H b=some (.own a)->H' b=some (.own a)) (ht:∀b xs,H b=some (.tup xs)->H' b=some (.tup xs)):Am P w H' h' a o:=by
 induction o with
 |lst xs=>obtain⟨z,its,n,r,e⟩:=x;exact⟨z,its,n,r,k _ _ (.inl rfl) e⟩
 |tup xs=>obtain⟨z,its,r,ob,e,c⟩:=x;exact⟨z,its,r,ob,k _ _ (.inl rfl) e,c⟩
 |dK kvs=>obtain⟨z,y,vs,r,ob,es,ep,e,c⟩:=x;exact⟨z,y,vs,r,ob,es,ep,k _ _ (.inl rfl) e,c⟩
 |dT kvs=>
  obtain⟨z,y,xs,r,ob,es,ep,e,c⟩:=x
  exact⟨z,y,xs,Paired.DZ r fun p q z=>⟨z.1,ht _ _ z.2.1,z.2.2⟩,ob,es,ep,k _ _ (.inl rfl) e,c⟩
 |set S n=>obtain⟨ob,es,ep,t,e,c⟩:=x;exact⟨ob,es,ep,t,k _ _ (.inl rfl) e,c⟩
 |ins C dx fs=>
  obtain⟨d,z,ne,e,mA,⟨od,es,ep,e2,c⟩,r⟩:=x
  exact⟨ho _ d,z,ne,k _ _ (.inl rfl) e,mA,⟨od,es,ep,k _ _ (.inr d) e2,c⟩,r⟩
 |own y=>obtain⟨ob,e⟩:=x;exact⟨ob,k _ _ (.inl rfl) e⟩
 |xd fs=>obtain⟨mA,⟨od,es,ep,e,c⟩,r⟩:=x;exact⟨mA,⟨od,es,ep,k _ _ (.inl rfl) e,c⟩,r⟩
 |Fl lo hi=>obtain⟨t,u,v,e⟩:=x;exact⟨t,u,v,k _ _ (.inl rfl) e⟩
 |frz ob u ih=>obtain⟨e,q⟩:=x;exact⟨k _ _ (.inl rfl) e,ih q⟩
 |DY ps=>
  have e:h.get? a=some { cls:=.none,data:=.fields ps }:=x
  show h'.get? a=some { cls:=.none,data:=.fields ps }
  exact k a _ (.inl rfl) e
 |met f y=>
  have e:h.get? a=some (PySem.W.methodObj (.ref f) (.ref y)):=x
  show h'.get? a=some (PySem.W.methodObj (.ref f) (.ref y))
  exact k a _ (.inl rfl) e
 |ext φ=>obtain⟨p,⟨o,e⟩,st⟩:=x;exact⟨st _ _ p fun o q=>k _ _ (.inl rfl) q,⟨o,k _ _ (.inl rfl) e⟩,st⟩
theorem Bx.lt(x:Bx P w H h)(e:H a=some o):a < h.objs.size:=(x a o e).lt
def Bx.fresh(x:Bx P w H h)(e:h.objs.size<=a):H a=none:=by
 cases q:H a with
 |none=>rfl
 |some u=>exact absurd (Ic (x.lt q) e) (Ju _)
def Bx.kept(x:Bx P w H h)(k:∀b u,h.get? b=some u->h'.get? b=some u):Bx P w H h':=fun a o e=>
 (x a o e).stay (fun b u _ q=>k b u q) (fun _ q=>q) fun _ _ q=>q
def Bx.laid(x:Bx P w H h)(k:∀b u,h.get? b=some u->h'.get? b=some u)(hp:h.objs.size<=a)(new:Am P w (upd H a o) h' a o):Bx P w (upd H a o) h':=fun b u e=>by
 have hn:=x.fresh hp
 by_cases hb:b=a
 ·subst hb;rw[ax]at e;cases e;exact new
 ·rw[av hb]at e
  exact(x b u e).stay (fun c v _ q=>k c v q) (fun c q=>by rw[av (aM q hn)];exact q) fun c xs q=>by rw[av (aM q hn)];exact q
end
def Rd(H:Hp)(a:Addr)(u:HO):Prop:=H a=some u\/∃o,H a=some (.frz o u)
def Rd.ok{P:Program}{w:World}{H:Hp}{h:Heap}{a:Addr}{u:HO}(r:Rd H a u)(x:Bx P w H h):Am P w H h a u:=by
 rcases r with r|⟨o,r⟩
 ·exact x a u r
 ·obtain⟨_,q⟩:=x a _ r
  exact q
noncomputable def v_:Option HO->Prop
 |some (.lst _)=>True
 |some (.dK _)=>True
 |some (.dT _)=>True
 |some (.set _ _)=>True
 |some (.ins _ _ _)=>True
 |some (.ext _)=>True
 |_=>False
section
variable {P:Program} {w:World} {H:Hp} {h h':Heap} {x e:Addr} {o':HO}
def Bx.write(ok:Bx P w H h)(mu:v_ (H x))(he:e=x\/H e=some (.own x))(k:∀b u,b≠e->h.get? b=some u->h'.get? b=some u)(Ex:∃u,h'.get? e=some u)
  (new:Am P w (upd H x o') h' x o'):Bx P w (upd H x o') h':=fun b u q=>by
 have EC:∀c y,H c=some (.own y)->c≠x:=fun c y r z=>by subst z;rw[r]at mu;exact mu
 have Fm:∀c xs,H c=some (.tup xs)->c≠x:=fun c xs r z=>by subst z;rw[r]at mu;exact mu
 by_cases hb:b=x
 ·subst hb;rw[ax]at q;cases q;exact new
 ·rw[av hb]at q
  by_cases D8:b=e
  ·have q':H b=some (.own x):=by
    rcases he with z|z
    ·exact absurd (D8.trans z) hb
    ·rw[D8];exact z
   rw[q]at q';cases q'
   obtain⟨v,hv⟩:=Ex
   exact⟨v,by rw[D8];exact hv⟩
  ·refine(ok b u q).stay (fun c v hc r=>k c v ?_ r) (fun c r=>by rw[av (EC c b r)];exact r) fun c xs r=>by rw[av (Fm c xs r)];exact r
   rcases hc with rfl|hc
   ·exact D8
   ·rintro rfl
    rcases he with z|z
    ·exact EC c b hc z
    ·rw[hc]at z;cases z;exact hb rfl
end
structure Un (fs ex:List Addr) (H H':Hp) (h h':Heap):Prop where
 keep:∀b o,h.get? b=some o->H b=none->b ∉ fs->b ∉ ex->h'.get? b=some o
 slot:∀b o,h.get? b=some o->H b=none->b∈fs->b ∉ ex->∃sl,h'.get? b=some { o with slots:=sl }
 free:∀b o,h.get? b=some o->H b=none->b ∉ ex->H' b=none
 there:∀b o,h.get? b=some o->b ∉ ex->∃o',h'.get? b=some o'
 tups:∀b xs,H b=some (.tup xs)->H' b=some (.tup xs)
 Ce:∀b o u,H b=some (.frz o u)->H' b=some (.frz o u)
 Cs:∀b ps,H b=some (.DY ps)->∃more,H' b=some (.DY (ps++more))
section
variable {fs fs' ex ex':List Addr} {H H1 H2:Hp} {h h1 h2 h':Heap} {a x e:Addr} {o:HO}
def Un.any(u:Un fs ex H H1 h h1){b:Addr}{ob:Obj}(q:h.get? b=some ob)(n:H b=none)(hx:b ∉ ex):∃sl,h1.get? b=some { ob with slots:=sl }:=by
 by_cases hb:b∈fs
 ·exact u.slot b ob q n hb hx
 ·exact⟨ob.slots,u.keep b ob q n hb hx⟩
def Un.kept(k:∀b u,h.get? b=some u->h'.get? b=some u):Un fs ex H H h h':=
 ⟨fun b ob q _ _ _=>k b ob q,fun b ob q _ _ _=>⟨ob.slots,k b ob q⟩,fun _ _ _ n _=>n,fun b ob q _=>⟨ob,k b ob q⟩,fun _ _ q=>q,fun _ _ _ q=>q,fun _ ps q=>⟨#[],by rw[q];simp⟩⟩
def Un.refl:Un fs ex H H h h:=Un.kept fun _ _ q=>q
def Un.laid(k:∀b u,h.get? b=some u->h'.get? b=some u)(hp:h.objs.size<=a)(hn:H a=none):Un fs ex H (upd H a o) h h' where
 keep:=fun b u q _ _ _=>k b u q
 slot:=fun b u q _ _ _=>⟨u.slots,k b u q⟩
 free:=fun b u q n _=>by rw[av (Iq (Ic (HS q) hp))];exact n
 there:=fun b u q _=>⟨u,k b u q⟩
 tups:=fun b xs q=>by rw[av (aM q hn)];exact q
 Ce:=fun b u xs q=>by rw[av (aM q hn)];exact q
 Cs:=fun b ps q=>⟨#[],by rw[av (aM q hn),q];simp⟩
def Un.write(mu:v_ (H x))(he:e=x\/H e=some (.own x))(k:∀b u,b≠e->h.get? b=some u->h'.get? b=some u)(Ex:∃u,h'.get? e=some u):Un fs ex H (upd H x o) h h':=by
 have hx:∀b,H b=none->b≠x:=fun b n z=>by subst z;rw[n]at mu;exact mu
 have hb:∀b,H b=none->b≠e:=fun b n z=>by
  subst z
  rcases he with r|r
  ·exact hx b n r
  ·rw[n]at r;cases r
 have hm:∀b u,H b=some u->¬v_ (some u)->b≠x:=fun b u q nm z=>by subst z;rw[q]at mu;exact nm mu
 refine⟨fun b u q n _ _=>k b u (hb b n) q,fun b u q n _ _=>⟨u.slots,k b u (hb b n) q⟩,fun b u q n _=>by rw[av (hx b n)];exact n,fun b u q _=>?_,
  fun b xs q=>by rw[av (hm b _ q fun z=>z)];exact q,fun b u xs q=>by rw[av (hm b _ q fun z=>z)];exact q,fun b ps q=>⟨#[],by rw[av (hm b _ q fun z=>z),q];simp⟩⟩
 by_cases D8:b=e
 ·subst D8;exact Ex
 ·exact⟨u,k b u D8 q⟩
end
noncomputable def xN(h:Heap)(H:Hp):List Addr:=(List.range h.objs.size).filter fun a=>(H a).isSome
noncomputable def kn(h:Heap)(H:Hp):Heap:=PySem.W.hideAll h (xN h H)
def nz(h:Heap)(H:Hp):(kn h H).objs.size=h.objs.size:=PySem.W.hideAll_size _ _
def oK{h:Heap}{H:Hp}{b:Addr}{o:Obj}(e:h.get? b=some o)(n:H b=none):(kn h H).get? b=some o:=
 PySem.W.hideAll_get _ e fun hm=>by
  have q:(H b).isSome=true:=(Ld.mp hm).2
  rw[n]at q;simp at q
def rf{h:Heap}{H:Hp}{b:Addr}{o:Obj}(e:(kn h H).get? b=some o):h.get? b=some o/\H b=none:=by
 have e':h.get? b=some o:=PySem.W.of_hideAll (xN h H) e
 refine⟨e',?_⟩
 cases q:H b with
 |none=>rfl
 |some x=>
  have hm:b∈xN h H:=Ld.mpr ⟨Kh.mpr (HS e'),by simp[q]⟩
  have z:(kn h H).get? b=none:=PySem.W.hideAll_none (xN h H) hm
  rw[z]at e;cases e
structure Mod (K:Vo) (mg:Vr) (base:Heap):Prop where
 Fn:K.In base
 glob:base.Ns mainGlobals mg
 blt:∃mb,base.Ns builtinsNs mb/\∀x:Str,x ≠ "__name__"->mb x=bootBuiltins x
 nolimit:base.NoLimit
structure Cx where
 prog:Program
 w:World
 K:Vo
 mg:Vr
 base:Heap
 A:Around
 N:List Str
 s₀:Shared
 H₀:Hp
 env:Env
 outer:List Env
 stack:List Env
 ex:List Addr
 fn:Str->Bool
 calm:Bool
 pn:Va
 xe:Value->Shared->Prop
noncomputable def frs(l:List Env):List Addr:=l.filterMap (·.frame)
noncomputable abbrev Cx.fs(X:Cx):List Addr:=frs X.outer
def xO(sc:Scope)(x:Str):Prop:=sc.names.lookup x=some .local\/sc.names.lookup x=some .cell\/sc.names.lookup x=some .free
def tH(sc:Scope)(x:Str):Prop:=sc.names.lookup x=some .local\/sc.names.lookup x=some .cell
def yc(env:Env)(h:Heap)(m:Vr)(x:Str)(u:Value):Prop:=
 (env.kindOf x=some .local/\m x=some u)\/((env.kindOf x=some .cell\/env.kindOf x=some .free)/\∃c,env.cells.lookup x=some c/\h.IsCell c (some u))
structure Cx.Ok (X:Cx):Prop where
 mod:Mod X.K X.mg X.base
 kind:X.env.scope.kind = .function
 glob:X.env.globals=mainGlobals
 blt:X.env.builtins=builtinsNs
 above:X.s₀.heap.objs.size<=X.env.locals
 inj:∀x y c,X.env.cells.lookup x=some c->X.env.cells.lookup y=some c->x=y
 has:∀x,(X.env.kindOf x=some .cell\/X.env.kindOf x=some .free)->∃c,X.env.cells.lookup x=some c
 Ey:∀x c,X.fn x=true->X.env.cells.lookup x=some c->X.s₀.heap.objs.size<=c
 hd:X.calm=true->X.A.handled=none
 frames:X.A.frames=some X.stack
 stk:X.stack=X.outer\/(X.stack=X.env::X.outer/\X.env.frame=some X.env.locals)
 Fo:∀b∈X.ex,b≠X.env.locals/\∀x c,X.env.cells.lookup x=some c->c≠b
 bs:∀b o,X.base.get? b=some o->X.s₀.heap.get? b=some o/\X.H₀ b=none
 Dy:X.base.objs.size<=X.s₀.heap.objs.size
 CW:∀b o,X.base.get? b=some o->b ∉ X.ex
 Dd:∀b∈X.ex,b ∉ X.fs
 BW:X.s₀.heap.FunFrames X.base X.outer
 D9:∀b∈X.fs,X.H₀ b=none
structure Inv (X:Cx) (pins:Va) (σ:List (Option V)) (H:Hp) (s:Shared):Prop where
 ok:X.Ok
 os:s.os=X.s₀.os
 bare:AllBare s.gens
 base:Un X.fs X.ex X.H₀ H X.s₀.heap s.heap
 loc:∃m,s.heap.Ns X.env.locals m/\∀(i:Nat) (x:Str) (v:V),X.N[i]?=some x->σ[i]?=some (some v)->xO X.env.scope x->∃u,RelV v u/\yc X.env s.heap m x u
 cell:∀x c,X.env.cells.lookup x=some c->∃v,s.heap.IsCell c v
 free:H X.env.locals=none
 Bp:∀x c,X.env.cells.lookup x=some c->H c=none
 pin:∀p∈X.pn++pins,s.heap.get? p.1=some p.2/\H p.1=none/\p.1≠X.env.locals/\p.1 ∉ X.fs/\∀v,p.2.data ≠ .cell v
 hok:Bx X.prog X.w H s.heap
 len:σ.length=X.N.length
section
variable {X:Cx} {pins:Va} {σ:List (Option V)} {H H':Hp} {s:Shared} {h':Heap}
def Cx.Ok.Fp(ok:X.Ok){b:Addr}{o:Obj}(e:X.base.get? b=some o):b ∉ X.fs:=fun hb=>by
 have:=(ok.BW.mem hb).1
 rw[e]at this;cases this
theorem Inv.bs(I:Inv X pins σ H s):∀b o,X.base.get? b=some o->s.heap.get? b=some o/\H b=none:=fun b o e=>
 ⟨I.base.keep b o (I.ok.bs b o e).1 (I.ok.bs b o e).2 (I.ok.Fp e) (I.ok.CW b o e),I.base.free b o (I.ok.bs b o e).1 (I.ok.bs b o e).2 (I.ok.CW b o e)⟩
def Inv.bk(I:Inv X pins σ H s):∀b o,X.base.get? b=some o->s.heap.get? b=some o:=fun b o e=>(I.bs b o e).1
theorem Inv.mod(I:Inv X pins σ H s):Mod X.K X.mg X.base:=I.ok.mod
def Inv.De(I:Inv X pins σ H s):X.K.In s.heap:=I.ok.mod.Fn.keeps I.bk
theorem Inv.lt(I:Inv X pins σ H s):X.env.locals < s.heap.objs.size:=let ⟨_,hn,_⟩:=I.loc;hn.lt
def Inv.sz(I:Inv X pins σ H s):X.s₀.heap.objs.size<=s.heap.objs.size:=Ik I.ok.above (KQ I.lt)
def Inv.ED(I:Inv X pins σ H s){a:Addr}(h:s.heap.objs.size<=a):a ∉ X.fs:=fun hb=>by
 obtain⟨_,o,ho,_⟩:=I.ok.BW.mem hb
 exact absurd (Ic (HS ho) (Ik I.sz h)) (Ju _)
def Inv.D_(I:Inv X pins σ H s):∀x c,X.env.cells.lookup x=some c->c≠X.env.locals:=fun x c e z=>by
 obtain⟨v,o,ho,hd⟩:=I.cell x c e
 obtain⟨m,⟨o',es,ep,ho',hd',_⟩,_⟩:=I.loc
 rw[z,ho']at ho;cases ho;rw[hd']at hd;cases hd
theorem Inv.BW(I:Inv X pins σ H s):s.heap.FunFrames X.base X.outer:=by
 have all:∀(l:List Env),(∀b∈frs l,b∈X.fs)->X.s₀.heap.FunFrames X.base l->s.heap.FunFrames X.base l:=by
  intro l
  induction l with
  |nil=>intro _ _;trivial
  |cons env r ih=>
   intro hs hl
   obtain⟨hk,⟨L,o,hf,hn,ho,hd⟩,hr⟩:=hl
   have hL:L∈X.fs:=hs L (by unfold frs;rw[Lj,hf];exact Jh)
   obtain⟨sl,e⟩:=I.base.slot L o ho (I.ok.D9 L hL) hL fun z=>I.ok.Dd L z hL
   exact⟨hk,⟨L,_,hf,hn,e,hd⟩,ih (fun b hb=>hs b (by unfold frs;rw[Lj,hf];exact Jk _ hb)) hr⟩
 exact all X.outer (fun _ hb=>hb) I.ok.BW
theorem Inv.stack(I:Inv X pins σ H s):s.heap.FunFrames X.base X.stack:=by
 rcases I.ok.stk with e|⟨e,hf⟩
 ·rw[e];exact I.BW
 ·rw[e]
  obtain⟨m,hn,_⟩:=I.loc
  refine .cons (by rw[I.ok.kind];decide) hf hn ?_ I.BW
  exact Heap.get?_none_of_le (Ik I.ok.Dy I.ok.above)
def Inv.BM(I:Inv X pins σ H s):∀b∈frs X.stack,b∈X.env.locals::X.fs:=fun b hb=>by
 rcases I.ok.stk with e|⟨e,hf⟩
 ·rw[e]at hb;exact Jk _ hb
 ·rw[e]at hb
  unfold frs at hb
  rw[Lj,hf]at hb
  exact hb
def Inv.CO(I:Inv X pins σ H s):∀b∈frs X.stack,H b=none:=fun b hb=>by
 rcases HW.mp (I.BM b hb)with e|hb
 ·rw[e];exact I.free
 ·obtain⟨_,o,ho,_⟩:=I.ok.BW.mem hb
  exact I.base.free b o ho (I.ok.D9 b hb) fun z=>I.ok.Dd b z hb
def Inv.step{g':Array GenState}{t':Nat}{d':Drawn}{ch:List Addr}(I:Inv X pins σ H s)
  (hch:∀b∈ch,(b∈X.ex\/X.s₀.heap.objs.size<=b)/\b≠X.env.locals/\(∀x c,X.env.cells.lookup x=some c->c≠b)/\∀p∈X.pn++pins,p.1≠b)
  (keep:∀b o,b≠X.env.locals->b ∉ X.fs->b ∉ ch->s.heap.get? b=some o->H b=none->h'.get? b=some o)
  (slot:∀b o,b≠X.env.locals->b∈X.fs->b ∉ ch->s.heap.get? b=some o->H b=none->∃sl,h'.get? b=some { o with slots:=sl }) (free:∀b o,b ∉ ch->s.heap.get? b=some o->H b=none->H' b=none)
  (there:∀b o,b ∉ ch->s.heap.get? b=some o->∃o',h'.get? b=some o')
  (tups:∀b xs,H b=some (.tup xs)->H' b=some (.tup xs)) (Ce:∀b o u,H b=some (.frz o u)->H' b=some (.frz o u)) (Cs:∀b ps,H b=some (.DY ps)->∃more,H' b=some (.DY (ps++more)))
  (ns:∀m,s.heap.Ns X.env.locals m->h'.Ns X.env.locals m) (hok:Bx X.prog X.w H' h') (hg:AllBare g') :
  Inv X pins σ H' { s with heap:=h',gens:=g',drawn:=d',toks:=t' }:=by
 have Gf:∀b o,X.s₀.heap.get? b=some o->b≠X.env.locals:=fun b o e=>Iq (Ic (HS e) I.ok.above)
 have EZ:∀b o,X.s₀.heap.get? b=some o->b ∉ X.ex->b ∉ ch:=fun b o e hx hb=>by
  rcases(hch b hb).1 with z|z
  ·exact hx z
  ·exact absurd (Ic (HS e) z) (Ju _)
 have cellK:∀x c,X.env.cells.lookup x=some c->∀v,s.heap.IsCell c v->h'.IsCell c v:=fun x c e v ⟨o,ho,hd⟩=>by
  have EE:c ∉ ch:=fun z=>(hch c z).2.2.1 x c e rfl
  by_cases hc:c∈X.fs
  ·obtain⟨sl,q⟩:=slot c o (I.D_ x c e) hc EE ho (I.Bp x c e)
   exact⟨_,q,hd⟩
  ·exact⟨o,keep c o (I.D_ x c e) hc EE ho (I.Bp x c e),hd⟩
 refine⟨I.ok,I.os,hg,⟨fun b o e n hb hx=>?_,fun b o e n hb hx=>?_,fun b o e n hx=>?_,fun b o e hx=>?_,fun b xs e=>tups b xs (I.base.tups b xs e),fun b o xs e=>Ce b o xs (I.base.Ce b o xs e),fun b ps e=>?_⟩,?_,fun x c e=>?_,?_,fun x c e=>?_,fun p hp=>?_,hok,I.len⟩
 ·exact keep b o (Gf b o e) hb (EZ b o e hx) (I.base.keep b o e n hb hx) (I.base.free b o e n hx)
 ·obtain⟨sl,e1⟩:=I.base.slot b o e n hb hx
  obtain⟨sl',e2⟩:=slot b _ (Gf b o e) hb (EZ b o e hx) e1 (I.base.free b o e n hx)
  exact⟨sl',e2⟩
 ·obtain⟨o',e1⟩:=I.base.there b o e hx
  exact free b o' (EZ b o e hx) e1 (I.base.free b o e n hx)
 ·obtain⟨o',e1⟩:=I.base.there b o e hx
  exact there b o' (EZ b o e hx) e1
 ·obtain⟨m1,e1⟩:=I.base.Cs b ps e
  obtain⟨m2,e2⟩:=Cs b _ e1
  exact⟨m1++m2,by rw[e2,Array.append_assoc]⟩
 ·obtain⟨m,hn,hl⟩:=I.loc
  refine⟨m,ns m hn,fun i x v e1 e2 e3=>?_⟩
  obtain⟨u,r,l⟩:=hl i x v e1 e2 e3
  refine⟨u,r,?_⟩
  rcases l with l|⟨k,c,e,z⟩
  ·exact .inl l
  ·exact .inr ⟨k,c,e,cellK x c e _ z⟩
 ·obtain⟨v,z⟩:=I.cell x c e
  exact⟨v,cellK x c e v z⟩
 ·obtain⟨m,⟨o,_,_,ho,_⟩,_⟩:=I.loc
  exact free _ o (fun z=>(hch _ z).2.1 rfl) ho I.free
 ·obtain⟨v,o,ho,hd⟩:=I.cell x c e
  exact free c o (fun z=>(hch c z).2.2.1 x c e rfl) ho (I.Bp x c e)
 ·obtain⟨e,n,ne,nf,d⟩:=I.pin p hp
  have EE:p.1 ∉ ch:=fun z=>(hch p.1 z).2.2.2 p hp rfl
  exact⟨keep p.1 p.2 ne nf EE e n,free p.1 p.2 EE e n,ne,nf,d⟩
def Inv.un{t':Nat}(I:Inv X pins σ H s)(u:Un X.fs [] H H' s.heap h')(hok:Bx X.prog X.w H' h'):Inv X pins σ H' { s with heap:=h',toks:=t' }:=by
 obtain⟨m,⟨o,es,ep,ho,r⟩,_⟩:=id I.loc
 obtain⟨sl,hL⟩:=u.any ho I.free (by simp)
 exact I.step (g':=s.gens) (d':=s.drawn) (ch:=[]) (fun _ z=>nomatch z) (fun b o _ hb _ e n=>u.keep b o e n hb (by simp)) (fun b o _ hb _ e n=>u.slot b o e n hb (by simp)) (fun b o _ e n=>u.free b o e n (by simp)) (fun b o _ e=>u.there b o e (by simp)) u.tups u.Ce u.Cs (fun m' hm=>by
  obtain⟨o',es',Fq,ho',r'⟩:=hm
  rw[ho]at ho';cases ho'
  exact⟨_,es',Fq,hL,r'⟩) hok I.bare
def Inv.call{g':Array GenState}{t':Nat}{d':Drawn}{ch:List Addr}(I:Inv X pins σ H s)(u:Un (frs X.stack) ch H H' s.heap h')(hok:Bx X.prog X.w H' h')(hg:AllBare g')
  (hch:∀b∈ch,(b∈X.ex\/X.s₀.heap.objs.size<=b)/\b≠X.env.locals/\(∀x c,X.env.cells.lookup x=some c->c≠b)/\∀p∈X.pn++pins,p.1≠b) :
  Inv X pins σ H' { s with heap:=h',gens:=g',drawn:=d',toks:=t' }:=by
 obtain⟨m,⟨o,es,ep,ho,r⟩,_⟩:=id I.loc
 obtain⟨sl,hL⟩:=u.any ho I.free fun z=>(hch _ z).2.1 rfl
 exact I.step (ch:=ch) hch (fun b o hL hb hc e n=>u.keep b o e n (fun z=>(HW.mp (I.BM b z)).elim hL hb) hc) (fun b o _ _ hc e n=>u.any e n hc) (fun b o hc e n=>u.free b o e n hc) (fun b o hc e=>u.there b o e hc) u.tups u.Ce u.Cs (fun m' hm=>by
  obtain⟨o',es',Fq,ho',r'⟩:=hm
  rw[ho]at ho';cases ho'
  exact⟨_,es',Fq,hL,r'⟩) hok hg
def Inv.turned{t':Nat}{it:Addr}(I:Inv X pins σ H s)(k:∀b o,b≠it->s.heap.get? b=some o->h'.get? b=some o)(hn:H it=none)(hL:it≠X.env.locals)
  (h1:it∈X.ex\/X.s₀.heap.objs.size<=it) (h2:∀x c,X.env.cells.lookup x=some c->c≠it) (h3:∀p∈X.pn++pins,p.1≠it):Inv X pins σ H { s with heap:=h',toks:=t' }:=by
 have EF:∀b u,H b=some u->b≠it:=fun b u e z=>by rw[z,hn]at e;cases e
 refine I.step (g':=s.gens) (d':=s.drawn) (ch:=[it]) (fun b hb=>?_) (fun b o _ _ hc e _=>k b o (fun z=>hc (by simp[z])) e) (fun b o _ _ hc e _=>⟨o.slots,k b o (fun z=>hc (by simp[z])) e⟩) (fun _ _ _ _ n=>n)
  (fun b o hc e=>⟨o,k b o (fun z=>hc (by simp[z])) e⟩) (fun _ _ e=>e) (fun _ _ _ e=>e) (fun b ps e=>⟨#[],by rw[e];simp⟩) (fun m hm=>?_) (fun b u e=>?_) I.bare
 ·have e:b=it:=by simpa using hb
  subst e
  exact⟨h1,hL,h2,h3⟩
 ·obtain⟨o,es,ep,ho,r⟩:=hm
  exact⟨o,es,ep,k _ o (JM hL) ho,r⟩
 ·refine(I.hok b u e).stay (fun c v hc q=>k c v ?_ q) (fun _ q=>q) fun _ _ q=>q
  rcases hc with z|z
  ·rw[z];exact EF b u e
  ·exact EF c _ z
def Inv.tok(I:Inv X pins σ H s)(t:Nat):Inv X pins σ H { s with toks:=t }:=I.un (h':=s.heap) (t':=t) Un.refl I.hok
theorem Inv.kept{t':Nat}(I:Inv X pins σ H s)(k:∀b u,s.heap.get? b=some u->h'.get? b=some u):Inv X pins σ H { s with heap:=h',toks:=t' }:=I.un (Un.kept k) (I.hok.kept k)
theorem Inv.laid{a:Addr}{o:HO}{t':Nat}(I:Inv X pins σ H s)(k:∀b u,s.heap.get? b=some u->h'.get? b=some u)(hp:s.heap.objs.size<=a)(new:Am X.prog X.w (upd H a o) h' a o) :
  Inv X pins σ (upd H a o) { s with heap:=h',toks:=t' }:=I.un (Un.laid k hp (I.hok.fresh hp)) (I.hok.laid k hp new)
theorem Inv.write{x e:Addr}{o:HO}{t':Nat}(I:Inv X pins σ H s)(mu:v_ (H x))(he:e=x\/H e=some (.own x))(k:∀b u,b≠e->s.heap.get? b=some u->h'.get? b=some u)(Ex:∃u,h'.get? e=some u)
  (new:Am X.prog X.w (upd H x o) h' x o):Inv X pins σ (upd H x o) { s with heap:=h',toks:=t' }:=I.un (Un.write mu he k Ex) (I.hok.write mu he k Ex new)
def Inv.weak{σ':List (Option V)}(I:Inv X pins σ H s)(hl:σ'.length=σ.length)(w:∀(i:Nat) v,σ'[i]?=some (some v)->σ[i]?=some (some v)):Inv X pins σ' H s:=
 ⟨I.ok,I.os,I.bare,I.base,let ⟨m,hn,hl'⟩:=I.loc;⟨m,hn,fun i x v e1 e2 e3=>hl' i x v e1 (w i v e2) e3⟩,I.cell,I.free,I.Bp,I.pin,I.hok,hl.trans I.len⟩
def Inv.BY{DN:Va}(I:Inv X pins σ H s)(h:∀p∈DN,s.heap.get? p.1=some p.2/\H p.1=none/\p.1≠X.env.locals/\p.1 ∉ X.fs/\∀v,p.2.data ≠ .cell v):Inv X DN σ H s:=
 ⟨I.ok,I.os,I.bare,I.base,I.loc,I.cell,I.free,I.Bp,fun p hp=>(HV.mp hp).elim (fun z=>I.pin p (JP _ z)) (h p),I.hok,I.len⟩
def k7{N:Vs}(hN:N.Nodup){i j:Nat}{x:Str}(a:N[i]?=some x)(b:N[j]?=some x):i=j:=by
 obtain⟨h1,e1⟩:=Im.mp a
 obtain⟨h2,e2⟩:=Im.mp b
 exact(List.getElem_inj hN).mp (e1.trans e2.symm)
def jP {M : Model} {A : Around} {E : Value -> Shared -> Prop} {i : Nat} {x : Str} {v : V} {u : Value} {Q : Unit -> Shared -> Prop} (I : Inv X pins σ H s) (hN : X.N.Nodup) (hi : X.N[i]? = some x) (hx : tH X.env.scope x) (r : RelV v u)
  (h : ∀ s', Inv X pins (σ.set i (some v)) H s' -> (∃ a, Heap.SameBut a s.heap s'.heap /\ (a = X.env.locals \/ X.env.cells.lookup x = some a)) -> Q () s') (hf : X.fn x = true \/ X.env.scope.names.lookup x = some .local := by first | exact .inl rfl | exact .inr rfl | assumption) : wpAny M A (storeName X.env x u) Q E s := by
 obtain ⟨m, hn, hl⟩ := id I.loc
 have hcls : (X.env.scope.kind == .class || (X.env.scope.kind == .module && X.env.locals != X.env.globals)) = false := by rw [I.ok.kind]; rfl
 have Gg : i < σ.length := by rw [I.len]; exact (Im.mp hi).1
 have D_ := I.D_
 have tracked : ∀ {a : Addr} {h' : Heap}, (∃ o, s.heap.get? a = some o /\ H a = none) -> Heap.SameBut a s.heap h' -> Bx X.prog X.w H h' := fun {a h'} ha hs b ob e => by
  obtain ⟨_, _, hfree⟩ := ha
  refine (I.hok b ob e).stay (fun c w' hc q => (hs.2 c ?_).trans q) (fun _ q => q) fun _ _ q => q
  rintro rfl
  rcases hc with rfl | hc
  ·rw [hfree] at e; cases e
  ·rw [hfree] at hc; cases hc
 rcases hx with hk | hk
 ·refine wpAny_storeName_local hk hn (fun h' hn' hs => ?_) hcls
  obtain ⟨oL, _, _, GU, _⟩ := id hn
  refine h _ ⟨I.ok, I.os, I.bare, ⟨fun b o e n hb hx => ?_, fun b o e n hb hx => ?_, I.base.free, fun b o e hx => ?_, I.base.tups, I.base.Ce, I.base.Cs⟩, ⟨_, hn', fun j y v' e1 e2 e3 => ?_⟩, fun y c e => ?_, I.free, I.Bp, fun p hp => ?_, tracked ⟨oL, GU, I.free⟩ hs, by simpa using I.len⟩ ⟨_, hs, .inl rfl⟩
  ·exact (hs.2 b (Iq (Ic (HS e) I.ok.above))).trans (I.base.keep b o e n hb hx)
  ·obtain ⟨sl, e1⟩ := I.base.slot b o e n hb hx
   exact ⟨sl, (hs.2 b (Iq (Ic (HS e) I.ok.above))).trans e1⟩
  ·obtain ⟨o', e1⟩ := I.base.there b o e hx
   exact ⟨o', (hs.2 b (Iq (Ic (HS e) I.ok.above))).trans e1⟩
  ·by_cases hj : j = i
   ·subst hj
    rw [hi] at e1; cases e1
    rw [List.getElem?_set_self Gg] at e2
    cases e2
    exact ⟨u, r, .inl ⟨hk, by simp⟩⟩
   ·rw [List.getElem?_set_ne (JM hj)] at e2
    obtain ⟨u', r', q⟩ := hl j y v' e1 e2 e3
    refine ⟨u', r', ?_⟩
    rcases q with ⟨k, e⟩ | ⟨k, c, e, z⟩
    ·refine .inl ⟨k, ?_⟩
     have : y ≠ x := fun e => hj (k7 hN e1 (e ▸ hi))
     simp [this, e]
    ·exact .inr ⟨k, c, e, z.sameBut hs (D_ y c e)⟩
  ·obtain ⟨w', z⟩ := I.cell y c e
   exact ⟨w', z.sameBut hs (D_ y c e)⟩
  ·obtain ⟨e, n, ne, nf, d⟩ := I.pin p hp
   exact ⟨(hs.2 p.1 ne).trans e, n, ne, nf, d⟩
 ·have hfn : X.fn x = true := by
   rcases hf with z | z
   ·exact z
   ·rw [z] at hk; cases hk
  obtain ⟨c, hc⟩ := I.ok.has x (.inl hk)
  obtain ⟨w', z⟩ := I.cell x c hc
  refine wpAny_storeName_cell I.ok.kind hk hc z (fun h' hc' hs => ?_)
  obtain ⟨oc, hoc, Fr⟩ := id z
  refine h { s with heap := h' } ⟨I.ok, I.os, I.bare, ⟨fun b o e n hb hx => ?_, fun b o e n hb hx => ?_, I.base.free, fun b o e hx => ?_, I.base.tups, I.base.Ce, I.base.Cs⟩, ⟨m, hn.sameBut hs (JM (D_ x c hc)), fun j y v' e1 e2 e3 => ?_⟩, fun y c' e => ?_, I.free, I.Bp, fun p hp => ?_, tracked ⟨oc, hoc, I.Bp x c hc⟩ hs, by simpa using I.len⟩ ⟨c, hs, .inr hc⟩
  ·exact (hs.2 b (Iq (Ic (HS e) (I.ok.Ey x c hfn hc)))).trans (I.base.keep b o e n hb hx)
  ·obtain ⟨sl, e1⟩ := I.base.slot b o e n hb hx
   exact ⟨sl, (hs.2 b (Iq (Ic (HS e) (I.ok.Ey x c hfn hc)))).trans e1⟩
  ·obtain ⟨o', e1⟩ := I.base.there b o e hx
   exact ⟨o', (hs.2 b (Iq (Ic (HS e) (I.ok.Ey x c hfn hc)))).trans e1⟩
  ·by_cases hj : j = i
   ·subst hj
    rw [hi] at e1; cases e1
    rw [List.getElem?_set_self Gg] at e2
    cases e2
    exact ⟨u, r, .inr ⟨.inl hk, c, hc, hc'⟩⟩
   ·rw [List.getElem?_set_ne (JM hj)] at e2
    obtain ⟨u', r', q⟩ := hl j y v' e1 e2 e3
    refine ⟨u', r', ?_⟩
    rcases q with q | ⟨k, c', e, z'⟩
    ·exact .inl q
    ·refine .inr ⟨k, c', e, z'.sameBut hs ?_⟩
     rintro rfl
     exact hj (k7 hN e1 (I.ok.inj _ _ _ e hc ▸ hi))
  ·by_cases hcc : c' = c
   ·subst hcc; exact ⟨_, hc'⟩
   ·obtain ⟨w2, z2⟩ := I.cell y c' e
    exact ⟨w2, z2.sameBut hs hcc⟩
  ·obtain ⟨e, n, ne, nf, d⟩ := I.pin p hp
   refine ⟨(hs.2 p.1 ?_).trans e, n, ne, nf, d⟩
   intro q
   rw [q, hoc] at e
   have q' : oc = p.2 := IY e
   exact d w' (by rw [<- q']; exact Fr)
def cC{M:Model}{A:Around}{E:Vq}{i:Nat}{x:Str}{v:V}{u:Value}{Q:Unit->Shared->Prop}(I:Inv X pins σ H s)(hN:X.N.Nodup)(hi:X.N[i]?=some x)(hx:tH X.env.scope x)(r:RelV v u)
  (h:∀s',Inv X pins (σ.set i (some v)) H s'->Q () s') (hf:X.fn x=true\/X.env.scope.names.lookup x=some .local:=by first|exact .inl rfl|exact .inr rfl|assumption):wpAny M A (storeName X.env x u) Q E s:=
 jP I hN hi hx r (fun s' I' _=>h s' I') hf
def Inv.EG{s':Shared}{ch:List Addr}(I:Inv X pins σ H s)(ho:s'.os=s.os)(u:Un (frs X.stack) ch H H' s.heap s'.heap)(hok:Bx X.prog X.w H' s'.heap)(hg:AllBare s'.gens)
  (hch:∀b∈ch,(b∈X.ex\/X.s₀.heap.objs.size<=b)/\b≠X.env.locals/\(∀x c,X.env.cells.lookup x=some c->c≠b)/\∀p∈X.pn++pins,p.1≠b):Inv X pins σ H' s':=by
 obtain⟨h',g',d',t',o'⟩:=s'
 have e:o'=s.os:=ho
 subst e
 exact I.call (g':=g') (t':=t') (d':=d') u hok hg hch
end
abbrev XK:=Value->Option Addr->Hp->Prop
abbrev St:=List (Option V)
abbrev VK:=V->Hp->Prop
abbrev TE:=St->Hp->VK->Prop
abbrev TT:=St->Hp->(Bool->Hp->Prop)->Prop
abbrev TA:=St->Hp->(List V->Hp->Prop)->Prop
structure lU where
 nx:St->Hp->Prop
 rt:VK
 bk:St->Hp->Prop:=fun _ _=>False
 ct:St->Hp->Prop:=fun _ _=>False
abbrev TS:=lU->St->Hp->Prop
def EP(X:Cx)(pins:Va)(σ:St)(Q:VK)(u:Value)(s':Shared):Prop:=∃v H',Inv X pins σ H' s'/\RelV v u/\Q v H'
def TP(X:Cx)(pins:Va)(σ:St)(Q:Bool->Hp->Prop)(b:Bool)(s':Shared):Prop:=∃H',Inv X pins σ H' s'/\Q b H'
def AP(X:Cx)(pins:Va)(σ:St)(Q:List V->Hp->Prop)(us:Vv)(s':Shared):Prop:=∃vs H',Inv X pins σ H' s'/\Vals vs us/\Q vs H'
def SP(X:Cx)(pins:Va)(D:lU)(f:Flow)(s':Shared):Prop:=
 match f with
 | .next=>∃σ' H',Inv X pins σ' H' s'/\D.nx σ' H'
 | .brk=>∃σ' H',Inv X pins σ' H' s'/\D.bk σ' H'
 | .cont=>∃σ' H',Inv X pins σ' H' s'/\D.ct σ' H'
 | .ret u=>∃v σ' H',Inv X pins σ' H' s'/\RelV v u/\D.rt v H'
def PE(X:Cx)(e:Expr)(t:TE):Prop:=
 ∀(pins:Va) (s:Shared) (σ:St) (H:Hp) (Q:VK),Inv X pins σ H s->t σ H Q->wpAny (model X.prog X.w) X.A (eval e X.env) (EP X pins σ Q) X.xe s
def PT(X:Cx)(e:Expr)(t:TT):Prop:=
 ∀(pins:Va) (s:Shared) (σ:St) (H:Hp) (Q:Bool->Hp->Prop),Inv X pins σ H s->t σ H Q->wpAny (model X.prog X.w) X.A (isTrue e X.env (eval e X.env)) (TP X pins σ Q) X.xe s
def PW(X:Cx)(e:Expr)(t:TT):Prop:=
 ∀(whole:Sem Value) (pins:Va) (s:Shared) (σ:St) (H:Hp) (Q:Bool->Hp->Prop),Inv X pins σ H s->t σ H Q->wpAny (model X.prog X.w) X.A (isTrue e X.env whole) (TP X pins σ Q) X.xe s
def PW.pt{X:Cx}{e:Expr}{t:TT}(h:PW X e t):PT X e t:=h _
def PA(X:Cx)(es:List Expr)(t:TA):Prop:=
 ∀(pos:Pos) (pins:Va) (s:Shared) (σ:St) (H:Hp) (Q:List V->Hp->Prop),Inv X pins σ H s->t σ H Q->wpAny (model X.prog X.w) X.A (spliced (backTo pos (starEach es X.env))) (AP X pins σ Q) X.xe s
def PS(X:Cx)(st:Stmt)(t:TS):Prop:=
 ∀(pins:Va) (s:Shared) (σ:St) (H:Hp) (D:lU),Inv X pins σ H s->t D σ H->wpAny (model X.prog X.w) X.A (exec st X.env) (SP X pins D) X.xe s
def Ct(X:Cx)(st:List Stmt)(t:TS):Prop:=
 ∀(pins:Va) (s:Shared) (σ:St) (H:Hp) (D:lU),Inv X pins σ H s->t D σ H->wpAny (model X.prog X.w) X.A (execs st X.env) (SP X pins D) X.xe s
def zX{α:Type}{t:Sem α}{Q Q':α->Shared->Prop}{M:Model}{A:Around}{E:Vq}{s:Shared}(h:wpAny M A t Q E s)(hQ:∀a s,Q a s->Q' a s):wpAny M A t Q' E s:=J3 h hQ fun _ _ x=>x
section
variable {X:Cx}
def yd(i:Nat):TE:=fun σ H Q=>∃v,σ[i]?=some (some v)/\Q v H
def tC(v:V):TE:=fun _ H Q=>Q v H
def uc{i:Nat}{x:Str}{pos:Pos}(hN:X.N[i]?=some x)(hv:xO X.env.scope x)(hd:(x == ("__debug__":Str))=false:=by decide)(hcd:(x == ("__classdict__":Str))=false:=by decide):PE X (.Name x pos) (yd i):=by
 intro pins s σ H Q I h
 obtain⟨v,e,h⟩:=h
 obtain⟨m,hn,hl⟩:=I.loc
 obtain⟨u,r,l⟩:=hl i x v hN e hv
 have fin:EP X pins σ Q u s:=⟨v,H,I,r,h⟩
 rcases l with⟨hk,hm⟩|⟨hk,c,hc,hcell⟩
 ·exact wpAny_Name (wpAny_loadName_local I.ok.kind hk hn hm fin) hd
 ·rcases hk with hk|hk
  ·exact wpAny_Name (wpAny_loadName_cell I.ok.kind hk hc hcell fin) hd
  ·exact wpAny_Name (wpAny_loadName_free I.ok.kind hk hc hcell fin hcd) hd
def ud{i j pos}:PE X (.Constant (.int i) j pos) (tC (.int i)):=fun _ _ _ H _ I h=>wpAny_Constant_int ⟨.int i,H,I.tok _,⟨_,rfl⟩,h⟩
def wa{b j pos}:PE X (.Constant (.bool b) j pos) (tC (.bl b)):=fun _ _ _ H _ I h=>Constant_bool ⟨.bl b,H,I,rfl,h⟩
def ue{j pos}:PE X (.Constant .none j pos) (tC .non):=fun _ _ _ H _ I h=>Constant_none ⟨.non,H,I,rfl,h⟩
def uf{x j pos}:PE X (.Constant (.str x) j pos) (tC (.str x)):=fun _ _ _ H _ I h=>Calls.Constant_str ⟨.str x,H,I.tok _,⟨_,rfl⟩,h⟩
def Gl(X:Cx)(x:Str):Prop:=X.env.kindOf x=some .globalImplicit
def mK{E:Vq}{pins:Va}{s:Shared}{σ:St}{H:Hp}{x:Str}{u:Value}{pos:Pos}{Q:Vq}(I:Inv X pins σ H s)(hg:Gl X x)(hm:X.mg x=some u)(h:Q u s)
  (hd:(x == ("__debug__":Str))=false:=by decide):wpAny (model X.prog X.w) X.A (eval (.Name x pos) X.env) Q E s:=
 Calls.Name_function_global I.ok.kind hg (Calls.loadGlobal_global (by rw[I.ok.glob];exact I.mod.glob.keeps I.bk) hm h) hd
def df{E:Vq}{pins:Va}{s:Shared}{σ:St}{H:Hp}{x:Str}{u:Value}{pos:Pos}{Q:Vq}(I:Inv X pins σ H s)(hg:Gl X x)(hm:X.mg x=none)(hv:bootBuiltins x=some u)(h:Q u s)
  (hn:x ≠ "__name__":=by decide) (hd:(x == ("__debug__":Str))=false:=by decide):wpAny (model X.prog X.w) X.A (eval (.Name x pos) X.env) Q E s:=by
 obtain⟨mb,h1,h2⟩:=I.mod.blt
 exact Calls.Name_function_global I.ok.kind hg (Calls.loadGlobal_builtin (by rw[I.ok.glob];exact I.mod.glob.keeps I.bk) hm (by rw[I.ok.blt];exact h1.keeps I.bk) ((h2 x hn).trans hv) h) hd
def rg{x:Str}{v:V}{u:Value}{pos:Pos}(hg:Gl X x)(hm:X.mg x=none)(hv:bootBuiltins x=some u)(r:RelV v u)(hn:x ≠ "__name__":=by decide)(hd:(x == ("__debug__":Str))=false:=by decide):PE X (.Name x pos) (tC v):=
 fun _ _ _ H _ I h=>df I hg hm hv ⟨v,H,I,r,h⟩ hn hd
variable {a b:Expr} {ta tb:TE} {pos:Pos}
def tB(t:TE):TT:=fun σ H Q=>t σ H fun x H1=>∃c,x = .bl c/\Q c H1
def ug{e:Expr}{t:TE}(h:PE X e t)(he:∀whole,isTrue e X.env whole=(do let v <-whole;standAt e.pos;holding [v] (truthy v)):=by intro _;rfl):PT X e (tB t):=by
 intro pins s σ H Q I hw
 refine isTrue_plain (zX (h pins s σ H _ I hw) fun v s1 ⟨x,H1,I1,r1,q1⟩=>?_) (he _)
 obtain⟨d,rfl,q⟩:=q1
 cases r1
 exact JQ ⟨H1,I1,q⟩
variable {tA E4:TT} {rest:List Expr}
def ye(t u:TT):TT:=fun σ H Q=>t σ H fun c H1=>if c=true then u σ H1 Q else Q false H1
def zq(t u:TT):TT:=fun σ H Q=>t σ H fun c H1=>if c=true then Q true H1 else u σ H1 Q
def yf(t:TT):TT:=fun σ H Q=>t σ H fun c H1=>Q (!c) H1
def rh(ha:PT X a tA):PW X (.BoolOp .And [a] pos) tA:=by
 intro wh pins s σ H Q I h
 refine isTrue_and (zX (ha pins s σ H Q I h) fun c s1 e=>?_)
 cases c with
 |true=>exact isTrue_and_nil e
 |false=>exact e
def uh(ha:PT X a tA):PW X (.BoolOp .Or [a] pos) tA:=by
 intro wh pins s σ H Q I h
 refine isTrue_or (zX (ha pins s σ H Q I h) fun c s1 e=>?_)
 cases c with
 |false=>exact isTrue_or_nil e
 |true=>exact e
def uk(ha:PT X a tA)(hb:PW X (.BoolOp .And (b::rest) pos) E4):PW X (.BoolOp .And (a::b::rest) pos) (ye tA E4):=by
 intro wh pins s σ H Q I h
 refine isTrue_and (zX (ha pins s σ H _ I h) fun c s1 ⟨H1,I1,q1⟩=>?_)
 cases c with
 |true=>exact hb wh pins s1 σ H1 Q I1 q1
 |false=>exact⟨H1,I1,q1⟩
def wb(ha:PT X a tA)(hb:PW X (.BoolOp .Or (b::rest) pos) E4):PW X (.BoolOp .Or (a::b::rest) pos) (zq tA E4):=by
 intro wh pins s σ H Q I h
 refine isTrue_or (zX (ha pins s σ H _ I h) fun c s1 ⟨H1,I1,q1⟩=>?_)
 cases c with
 |true=>exact⟨H1,I1,q1⟩
 |false=>exact hb wh pins s1 σ H1 Q I1 q1
def ul(ha:PT X a tA):PT X (.UnaryOp .Not a pos) (yf tA):=by
 intro pins s σ H Q I h
 exact isTrue_not (ha pins s σ H (fun c H1=>Q (!c) H1) I h)
def we(ta tb:TE):TE:=fun σ H Q=>ta σ H fun x H1=>∃c,x = .bl c/\if c=true then tb σ H1 Q else Q (.bl false) H1
def yg(ta tb:TE):TE:=fun σ H Q=>ta σ H fun x H1=>∃c,x = .bl c/\if c=true then Q (.bl true) H1 else tb σ H1 Q
def wf(ta:TE):TE:=fun σ H Q=>ta σ H fun x H1=>∃c,x = .bl c/\Q (.bl (!c)) H1
def um{op}{t:TE}(h:PE X a t):PE X (.BoolOp op [a] pos) t:=fun pins s σ H Q I hw=>BoolOp_one (h pins s σ H Q I hw)
def uo(ha:PE X a ta)(hb:PE X (.BoolOp .And (b::rest) pos) tb):PE X (.BoolOp .And (a::b::rest) pos) (we ta tb):=by
 intro pins s σ H Q I h
 refine BoolOp_and (zX (ha pins s σ H _ I h) fun v s1 ⟨x,H1,I1,r1,q1⟩=>?_)
 obtain⟨c,rfl,q1⟩:=q1
 cases r1
 refine JQ ?_
 cases c with
 |true=>exact hb pins s1 σ H1 Q I1 q1
 |false=>exact⟨.bl false,H1,I1,rfl,q1⟩
def wg(ha:PE X a ta)(hb:PE X (.BoolOp .Or (b::rest) pos) tb):PE X (.BoolOp .Or (a::b::rest) pos) (yg ta tb):=by
 intro pins s σ H Q I h
 refine BoolOp_or (zX (ha pins s σ H _ I h) fun v s1 ⟨x,H1,I1,r1,q1⟩=>?_)
 obtain⟨c,rfl,q1⟩:=q1
 cases r1
 refine JQ ?_
 cases c with
 |false=>exact hb pins s1 σ H1 Q I1 q1
 |true=>exact⟨.bl true,H1,I1,rfl,q1⟩
def uq(ha:PE X a ta):PE X (.UnaryOp .Not a pos) (wf ta):=by
 intro pins s σ H Q I h
 refine UnaryOp_ (zX (ha pins s σ H _ I h) fun v s1 ⟨x,H1,I1,r1,q1⟩=>?_)
 obtain⟨c,rfl,q1⟩:=q1
 cases r1
 exact not_of (JQ ⟨.bl (!c),H1,I1,rfl,q1⟩)
def zr(t:TT)(ta tb:TE):TE:=fun σ H Q=>t σ H fun c H1=>if c=true then ta σ H1 Q else tb σ H1 Q
def oM{c:Expr}(hc:PT X c tA)(ha:PE X a ta)(hb:PE X b tb):PE X (.IfExp c a b pos) (zr tA ta tb):=by
 intro pins s σ H Q I h
 refine wpAny_IfExp (zX (hc pins s σ H _ I h) fun d s1 ⟨H1,I1,q1⟩=>?_)
 cases d with
 |true=>exact ha pins s1 σ H1 Q I1 q1
 |false=>exact hb pins s1 σ H1 Q I1 q1
end
def SqL(K:Vo)(H:Hp)(a:Addr)(xs:List V):Prop:=
 Rd H a (.lst xs) \/
  ∃(o:Obj) (its:Vw) (n:Nat),K.lookup a=some o/\o.cls = .type "list"/\o.dict=none/\o.data = .seq its n/\its.size<=sizeLine/\Vals xs its.toList
def SqT(K:Vo)(H:Hp)(a:Addr)(xs:List V):Prop:=
 Rd H a (.tup xs) \/
  ∃(o:Obj) (its:Vw) (n:Nat),K.lookup a=some o/\o.cls = .type "tuple"/\o.dict=none/\o.data = .seq its n/\its.size<=sizeLine/\Vals xs its.toList
noncomputable def yh:Value->Option V
 | .none=>some .non
 | .bool b=>some (.bl b)
 | .int i _=>some (.int i)
 | .str x _=>some (.str x)
 | .bytes b _=>some (.Dc b)
 | .float b _=>some (.Fk b)
 | .ref a=>some (.ref a)
 | .type n=>some (.ty n)
 |_=>none
def RelV.abs{x:V}{u:Value}(r:RelV x u):yh u=some x:=by
 cases x with
 |non=>cases r;rfl
 |bl _=>cases r;rfl
 |int _=>obtain⟨t,rfl⟩:=r;rfl
 |str _=>obtain⟨t,rfl⟩:=r;rfl
 |Dc _=>obtain⟨t,rfl⟩:=r;rfl
 |Fk _=>obtain⟨t,rfl⟩:=r;rfl
 |ref _=>cases r;rfl
 |ty _=>cases r;rfl
theorem RelV.inj{x y:V}{u:Value}(r:RelV x u)(q:RelV y u):x=y:=IY (r.abs.symm.trans q.abs)
theorem Vals.inj:∀{xs ys:List V} {us:Vv},Vals xs us->Vals ys us->xs=ys
 |_,_,_,.nil,.nil=>rfl
 |_,_,_,.cons r t,.cons r' t'=>by rw[r.inj r',Vals.inj t t']
section
variable {X:Cx} {pins:Va} {σ:St} {H:Hp} {s:Shared} {a:Addr} {xs ys:List V}
def SqL.of{K:Vo}(h:H a=some (.lst xs)):SqL K H a xs:=.inl (.inl h)
def SqT.of{K:Vo}(h:H a=some (.tup xs)):SqT K H a xs:=.inl (.inl h)
def Inv.list(I:Inv X pins σ H s)(h:SqL X.K H a xs):∃its:List Value,Vals xs its/\PlainL s.heap a its.toArray/\xs.length<=sizeLine:=by
 rcases h with h|⟨o,its,n,hk,hc,hd,hs,hz,r⟩
 ·obtain⟨z,its,n,r,e⟩:=h.ok I.hok
  exact⟨its,r,⟨_,n,e,rfl,rfl,rfl⟩,z⟩
 ·refine⟨its.toList,r,⟨o,n,I.De a o hk,hc,hd,by simpa using hs⟩,?_⟩
  have e:=r.length
  simp only[Array.length_toList]at e
  omega
def Inv.tuple(I:Inv X pins σ H s)(h:SqT X.K H a xs):∃its:List Value,Vals xs its/\IsTup s.heap a its.toArray/\xs.length<=sizeLine:=by
 rcases h with h|⟨o,its,n,hk,hc,_,hs,hz,r⟩
 ·obtain⟨z,its,r,p⟩:=h.ok I.hok
  exact⟨its,r,p.tup,z⟩
 ·refine⟨its.toList,r,⟨o,I.De a o hk,hc,n,by simpa using hs⟩,?_⟩
  have e:=r.length
  simp only[Array.length_toList]at e
  omega
def Inv.B2(I:Inv X pins σ H s)(h:SqL X.K H a xs)(h':SqL X.K H a ys):xs=ys:=by
 obtain⟨its,r,⟨o,n,e,_,_,d⟩,_⟩:=I.list h
 obtain⟨its',r',⟨o',n',e',_,_,d'⟩,_⟩:=I.list h'
 rw[e]at e';cases e'
 rw[d]at d'
 injection d' with d1 _
 have:its=its':=by simpa using I9 Array.toList d1
 subst this
 exact r.inj r'
def Inv.BN(I:Inv X pins σ H s)(h:SqT X.K H a xs)(h':SqT X.K H a ys):xs=ys:=by
 obtain⟨its,r,⟨o,e,_,n,d⟩,_⟩:=I.tuple h
 obtain⟨its',r',⟨o',e',_,n',d'⟩,_⟩:=I.tuple h'
 rw[e]at e';cases e'
 rw[d]at d'
 injection d' with d1 _
 have:its=its':=by simpa using I9 Array.toList d1
 subst this
 exact r.inj r'
end
noncomputable abbrev Cx.wish(X:Cx)(E:Vq):Cx:={ X with xe:=E }
noncomputable abbrev Cx.Ea(X:Cx):Cx:=X.wish fun _ _=>False
theorem Cx.Ok.wish{X:Cx}(ok:X.Ok)(E:Vq):(X.wish E).Ok:=
 ⟨ok.mod,ok.kind,ok.glob,ok.blt,ok.above,ok.inj,ok.has,ok.Ey,ok.hd,ok.frames,ok.stk,ok.Fo,ok.bs,ok.Dy,ok.CW,ok.Dd,ok.BW,ok.D9⟩
def Cx.Ok.Bq{X:Cx}{E:Vq}(ok:(X.wish E).Ok):X.Ok:=
 ⟨ok.mod,ok.kind,ok.glob,ok.blt,ok.above,ok.inj,ok.has,ok.Ey,ok.hd,ok.frames,ok.stk,ok.Fo,ok.bs,ok.Dy,ok.CW,ok.Dd,ok.BW,ok.D9⟩
section
variable {X:Cx} {pins:Va} {σ:St} {H:Hp} {s:Shared} {E:Vq}
theorem Inv.wish(I:Inv X pins σ H s)(E:Vq):Inv (X.wish E) pins σ H s:=⟨I.ok.wish E,I.os,I.bare,I.base,I.loc,I.cell,I.free,I.Bp,I.pin,I.hok,I.len⟩
theorem Inv.Bq(I:Inv (X.wish E) pins σ H s):Inv X pins σ H s:=⟨I.ok.Bq,I.os,I.bare,I.base,I.loc,I.cell,I.free,I.Bp,I.pin,I.hok,I.len⟩
theorem SP.Bq{D:lU}{f:Flow}{s':Shared}(h:SP (X.wish E) pins D f s'):SP X pins D f s':=by
 cases f with
 |next=>obtain⟨σ',H',I,q⟩:=h;exact⟨σ',H',I.Bq,q⟩
 |brk=>obtain⟨σ',H',I,q⟩:=h;exact⟨σ',H',I.Bq,q⟩
 |cont=>obtain⟨σ',H',I,q⟩:=h;exact⟨σ',H',I.Bq,q⟩
 |ret u=>obtain⟨v,σ',H',I,r,q⟩:=h;exact⟨v,σ',H',I.Bq,r,q⟩
theorem Ct.Ea{st:List Stmt}{t:TS}(h:Ct X.Ea st t):Ct X st t:=fun pins s σ H D I hw=>
 J3 (h pins s σ H D (I.wish _) hw) (fun _ _ q=>q.Bq) fun _ _ z=>False.elim z
end
section
variable {X:Cx} {st:Stmt} {rest:List Stmt} {t u:TS} {e:Expr} {te:TE} {pos:Pos}
def wj:TS:=fun D σ H=>D.nx σ H
def yi(t u:TS):TS:=fun D σ H=>t { D with nx:=u D } σ H
def rj:Ct X [] wj:=fun _ _ σ H _ I h=>Le ⟨σ,H,I,h⟩
def oN(h1:PS X st t)(h2:Ct X rest u):Ct X (st::rest) (yi t u):=by
 intro pins s σ H D I h
 refine wpAny_execs_cons (zX (h1 pins s σ H { D with nx:=u D } I h) fun f s1 q=>?_)
 cases f with
 |next=>
  obtain⟨σ',H',I',q⟩:=q
  exact h2 pins s1 σ' H' D I' q
 |ret v=>exact q
 |brk=>exact q
 |cont=>exact q
def rm(h1:PS X st t):Ct X [st] t:=by
 intro pins s σ H D I h
 refine wpAny_execs_cons (zX (h1 pins s σ H D I h) fun f s1 q=>?_)
 cases f with
 |next=>exact Le q
 |ret v=>exact q
 |brk=>exact q
 |cont=>exact q
def Inv.quiet{pins:Va}{σ:St}{H:Hp}{s:Shared}(I:Inv X pins σ H s):interactive X.env=false:=by simp[interactive,I.ok.kind]
def wk(te:TE):TS:=fun D σ H=>te σ H fun _ H1=>D.nx σ H1
def rn(he:PE X e te)(hs:swapsWith e none pos.line X.env=pure false:=by rfl):PS X (.Expr e pos) (wk te):=by
 intro pins s σ H D I h
 exact wpAny_Expr_any (zX (he pins s σ H _ I h) fun v s1 ⟨x,H1,I1,r1,q1⟩=>⟨σ,H1,I1,q1⟩) I.quiet hs
def yj(te:TE):TS:=fun D σ H=>te σ H D.rt
def ur(he:PE X e te):PS X (.Return (some e) pos) (yj te):=by
 intro pins s σ H D I h
 exact wpAny_Return_some (zX (he pins s σ H _ I h) fun v s1 ⟨x,H1,I1,r1,q1⟩=>⟨x,σ,H1,I1,r1,q1⟩)
def yk(c:TT)(t u:TS):TS:=fun D σ H=>c σ H fun b H1=>if b=true then t D σ H1 else u D σ H1
def wm{c:Expr}{a b:List Stmt}{tc:TT}(hc:PT X c tc)(ha:Ct X a t)(hb:Ct X b u):PS X (.If c a b pos) (yk tc t u):=by
 intro pins s σ H D I h
 refine wpAny_If (zX (hc pins s σ H _ I h) fun d s1 ⟨H1,I1,q1⟩=>?_)
 cases d with
 |true=>exact ha pins s1 σ H1 D I1 q1
 |false=>exact hb pins s1 σ H1 D I1 q1
end
abbrev TG:=V->St->Hp->(St->Hp->Prop)->Prop
abbrev tI:=List V->St->Hp->(St->Hp->Prop)->Prop
def PG(X:Cx)(target:Expr)(t:TG):Prop:=
 ∀(pins:Va) (s:Shared) (σ:St) (H:Hp) (v:V) (u:Value) (Q:St->Hp->Prop),Inv X pins σ H s->RelV v u->t v σ H Q->
  wpAny (model X.prog X.w) X.A (assign target X.env u) (fun _ s'=>∃σ' H',Inv X pins σ' H' s'/\Q σ' H') X.xe s
def wn(X:Cx)(ts:List Expr)(t:tI):Prop:=
 ∀(pins:Va) (s:Shared) (σ:St) (H:Hp) (vs:List V) (us:Vv) (Q:St->Hp->Prop),Inv X pins σ H s->Vals vs us->t vs σ H Q->
  wpAny (model X.prog X.w) X.A (assignInOrder ((assignEach ts X.env).map (·.2)) us) (fun _ s'=>∃σ' H',Inv X pins σ' H' s'/\Q σ' H') X.xe s
abbrev ut:=V->V->V->Hp->(Hp->Prop)->Prop
def rq(X:Cx)(t:ut):Prop:=
 ∀(pins:Va) (s:Shared) (σ:St) (H:Hp) (o i v:V) (ov iv u:Value) (Q:Hp->Prop),Inv X pins σ H s->RelV o ov->RelV i iv->RelV v u->t o i v H Q->
  wpAny (model X.prog X.w) X.A (setItem ov iv u) (fun _ s'=>∃H',Inv X pins σ H' s'/\Q H') X.xe s
section
variable {X:Cx} {pos:Pos}
def k8(i:Nat):TG:=fun v σ H Q=>Q (σ.set i (some v)) H
def rA{i:Nat}{x:Str}(hN:X.N.Nodup)(hi:X.N[i]?=some x)(hx:tH X.env.scope x)(hf:X.fn x=true\/X.env.scope.names.lookup x=some .local:=by first|exact .inl rfl|exact .inr rfl|assumption):PG X (.Name x pos) (k8 i):=by
 intro pins s σ H v u Q I r h
 exact wpAny_assign_Name (cC I hN hi hx r (fun s' I'=>⟨_,H,I',h⟩) hf)
noncomputable def wo:tI:=fun vs σ H Q=>vs=[]/\Q σ H
noncomputable def tJ(t:TG)(u:tI):tI:=fun vs σ H Q=>∃v r,vs=v::r/\t v σ H fun σ' H'=>u r σ' H' Q
def rB:wn X [] wo:=by
 intro pins s σ H vs us Q I r h
 obtain⟨e,h⟩:=h
 subst e
 cases r
 exact assignInOrder_nil ⟨σ,H,I,h⟩
def oO{e:Expr}{es:List Expr}{t:TG}{u:tI}(h1:PG X e t)(h2:wn X es u)
  (hs:(assignEach (e::es) X.env).map (·.2)=assign e X.env::(assignEach es X.env).map (·.2):=by rfl):wn X (e::es) (tJ t u):=by
 intro pins s σ H vs us Q I r h
 obtain⟨v,vr,e1,h⟩:=h
 subst e1
 cases r with
 |cons r rr=>
  rw[hs]
  refine JI (zX (h1 pins s σ H _ _ _ I r h) fun _ s1 ⟨σ1,H1,I1,q1⟩=>?_)
  exact h2 pins s1 σ1 H1 _ _ Q I1 rr q1
def wq(K:Vo)(n:Nat)(t:tI):TG:=fun v σ H Q=>∃a xs,v = .ref a/\SqT K H a xs/\xs.length=n/\t xs σ H Q
def uu{es:List Expr}{k:Nat}{t:tI}{n:Nat}(hc:X.calm=true)(h:wn X es t)
  (hn:(assignEach es X.env).length=n:=by rfl) (hst:(assignEach es X.env).findIdx? (·.1)=none:=by rfl):PG X (.Tuple es k pos) (wq X.K n t):=by
 intro pins s σ H v u Q I r hw
 obtain⟨a,xs,e1,hq,hl,hw⟩:=hw
 subst e1
 cases r
 obtain⟨its,rv,ht,hz⟩:=I.tuple hq
 refine assign_Tuple_tuple (I.ok.hd hc) ht (by simp[hn,<-hl,rv.length]) hst fun h' hx=>?_
 have I1:Inv X pins σ H { s with heap:=h' }:=I.kept (t':=s.toks) fun b o e=>hx b o (Iq (HS e)) e
 exact h pins _ σ H xs _ Q I1 (by simpa using rv) hw
def ym(to ti:TE)(t:ut):TG:=fun v σ H Q=>to σ H fun o H1=>ti σ H1 fun i H2=>t o i v H2 fun H3=>Q σ H3
def uv{o i:Expr}{to ti:TE}{t:ut}(ho:PE X o to)(hi:PE X i ti)(hs:rq X t)
  (ha:∀v,assign (.Subscript o i pos) X.env v=(do
   let ov <-holding [v] (eval o X.env)
   let iv <-holding [v,ov] (eval i X.env)
   standAt pos
   holding [v,ov,iv] (setItem ov iv v)
   release [v,ov,iv] []):=by intro _;rfl):PG X (.Subscript o i pos) (ym to ti t):=by
 intro pins s σ H v u Q I r h
 rw[ha]
 refine HK (Jv (zX (ho pins s σ H _ I h) fun ov s1 ⟨x,H1,I1,r1,q1⟩=>?_))
 refine HK (Jv (zX (hi pins s1 σ H1 _ I1 q1) fun iv s2 ⟨y,H2,I2,r2,q2⟩=>?_))
 refine HK (wpAny_standAt (HK (Jv (zX (hs pins s2 σ H2 x y v ov iv u _ I2 r1 r2 r q2) fun _ s3 ⟨H3,I3,q3⟩=>?_))))
 exact wpAny_release ⟨σ,H3,I3,q3⟩
def rC(te:TE)(g:TG):TS:=fun D σ H=>te σ H fun x H1=>g x σ H1 D.nx
def oP{tg e:Expr}{te:TE}{g:TG}(he:PE X e te)(hg:PG X tg g)(hs:swapsWithSole [tg] e pos.line X.env=pure false:=by rfl)(hw:swappedStores [tg] e X.env=pure none:=by rfl)
  (h1:(assignEach [tg] X.env).map (·.2)=[assign tg X.env]:=by rfl):PS X (.Assign [tg] e pos) (rC te g):=by
 intro pins s σ H D I h
 refine wpAny_Assign_stores (zX (he pins s σ H _ I h) fun v s1 ⟨x,H1,I1,r1,q1⟩=>?_) hs hw
 rw[h1]
 exact zX (hg pins s1 σ H1 x v _ I1 r1 q1) fun _ s2 q=>q
def ux{i:Nat}{x:Str}{e:Expr}{te:TE}{pos':Pos}(hN:X.N.Nodup)(hi:X.N[i]?=some x)(hx:tH X.env.scope x)(he:PE X e te)(hs:swapsWith e (some (.Name x pos')) pos.line X.env=pure false:=by rfl)(hf:X.fn x=true\/X.env.scope.names.lookup x=some .local:=by first|exact .inl rfl|exact .inr rfl|assumption) :
  PS X (.Assign [.Name x pos'] e pos) (rC te (k8 i)):=by
 intro pins s σ H D I h
 refine wpAny_Assign_Name (zX (he pins s σ H _ I h) fun v s1 ⟨y,H1,I1,r1,q1⟩=>?_) hs
 exact cC I1 hN hi hx r1 (fun s2 I2=>⟨_,H1,I2,q1⟩) hf
def yn(i j:Nat)(ta:TA):TS:=fun D σ H=>ta σ H fun vs H1=>∃v w,vs=[v,w]/\D.nx ((σ.set i (some v)).set j (some w)) H1
def uy{i j:Nat}{x y:Str}{a b:Expr}{ta:TA}{px py pt:Pos}{kt k2 Eb}(hc:X.calm=true)(hN:X.N.Nodup)(hi:X.N[i]?=some x)(hj:X.N[j]?=some y)(hij:i≠j)
  (hx:X.env.scope.names.lookup x=some .local) (hy:X.env.scope.names.lookup y=some .local) (ha:PA X [a,b] ta)
  (hw:swappedStores [.Tuple [.Name x px,.Name y py] kt pt] (.Tuple [a,b] k2 Eb) X.env=pure (some [x,y]))
  (hs:swapsWithSole [.Tuple [.Name x px,.Name y py] kt pt] (.Tuple [a,b] k2 Eb) pos.line X.env=pure false:=by rfl) :
  PS X (.Assign [.Tuple [.Name x px,.Name y py] kt pt] (.Tuple [a,b] k2 Eb) pos) (yn i j ta):=by
 intro pins s σ H D I h
 rw[exec_Assign_arm]
 refine HK (wpAny_standAt ?_)
 rw[hs]
 refine HK (HR ?_)
 rw[if_neg (by decide)]
 refine HK (Tuple_ (zX (ha _ pins s σ H _ I h) fun us s1 ⟨vs,H1,I1,r1,q1⟩=>?_))
 obtain⟨v,w,e1,q1⟩:=q1
 subst e1
 obtain⟨u1,u2,rfl,rv,rw'⟩:∃u1 u2,us=[u1,u2]/\RelV v u1/\RelV w u2:=by
  cases r1 with
  |cons p q=>
   cases q with
   |cons p' q'=>
    cases q'
    exact⟨_,_,rfl,p,p'⟩
 refine Ja ?_ (by show 2<=sizeLine;decide)
 have I2:Inv X pins σ H1 { s1 with heap:=s1.heap.push { cls:=.type "tuple",data:=.seq [u1,u2].toArray } }:=I1.kept (t':=s1.toks) fun b o e=>HN _ e
 rw[hw]
 refine HK (HR ?_)
 show wpAny (model X.prog X.w) X.A (do rule "assign.swapped-stores"; let items <-unpackItems (.ref s1.heap.objs.size) 2 none;assignInOrder [fun v=>bindName X.env y v,fun v=>bindName X.env x v] items.reverse;pure Flow.next) _ _ _
 refine HK (KH (HK (unpackItems_tuple (items:=#[u1,u2]) (I.ok.hd hc) (IsTup.new s1.heap _) fun h' hx'=>?_)))
 have I3:=I2.kept (h':=h') (t':=s1.toks) fun b o e=>hx' b o (Iq (HS e)) e
 show wpAny _ _ (assignInOrder [fun v=>bindName X.env y v,fun v=>bindName X.env x v] [u2,u1] >>= fun _=>pure Flow.next) _ _ _
 refine HK (JI (KR (cC I3 hN hj (.inl hy) rw' (fun s2 I4=>?_) (.inr hy))))
 refine JI (KR (cC I4 hN hi (.inl hx) rv (fun s3 I5=>assignInOrder_nil (HR ?_)) (.inr hx)))
 rw[List.set_comm _ _ (JM hij)]at I5
 exact⟨_,H1,I5,q1⟩
end
section
variable {X:Cx} {pos:Pos}
def uz(c:TT)(tb:TS):TS:=fun D σ H=>∃W:Nat->St->Hp->Prop,(∃m,W m σ H)/\∀m σ H,W m σ H->
 c σ H fun b H1=>if b=true then ∃N:St->Hp->Prop,(∀σ' H',N σ' H'->∃m',m' < m/\W m' σ' H')/\tb { D with nx:=N,ct:=N,bk:=D.nx } σ H1 else D.nx σ H1
def oQ{c:Expr}{body:List Stmt}{tc:TT}{tb:TS}(hp:PassesOwn (model X.prog X.w) X.A X.env X.xe)(hc:PT X c tc)(hb:Ct X body tb):PS X (.While c body [] pos) (uz tc tb):=by
 intro pins s σ H D I h
 obtain⟨W,⟨m0,w0⟩,turn⟩:=h
 refine wpAny_While (codeAny_whileLoop (fun n s'=>∃σ' H',Inv X pins σ' H' s'/\W n σ' H') ?_ m0 ⟨σ,H,I,w0⟩)
 rintro n s1 ⟨σ1,H1,I1,w1⟩
 refine JO hp (zX (hc pins s1 σ1 H1 _ I1 (turn n σ1 H1 w1)) fun b s2 ⟨H2,I2,q2⟩=>?_)
 cases b with
 |true=>
  obtain⟨N,hN,q2⟩:=q2
  rw[if_pos rfl]
  refine JO hp (zX (hb pins s2 σ1 H2 _ I2 q2) fun f s3 q3=>?_)
  cases f with
  |next=>
   obtain⟨σ3,H3,I3,n3⟩:=q3
   obtain⟨m',hm,w3⟩:=hN σ3 H3 n3
   exact⟨m',hm,σ3,H3,I3,w3⟩
  |cont=>
   obtain⟨σ3,H3,I3,n3⟩:=q3
   obtain⟨m',hm,w3⟩:=hN σ3 H3 n3
   exact⟨m',hm,σ3,H3,I3,w3⟩
  |brk=>exact q3
  |ret v=>exact q3
 |false=>
  rw[if_neg Ip]
  exact Le ⟨σ1,H2,I2,q2⟩
end
structure It where
 go:Nat->Hp->Prop
 E5:Nat->Hp->V->Hp->Prop
 stop:Nat->Hp->Prop
def dm(X:Cx)(pins:Va)(H:Hp)(b:Addr):Prop:=
 H b=none/\b≠X.env.locals/\b ∉ X.fs/\(b∈X.ex\/X.s₀.heap.objs.size<=b)/\(∀x c,X.env.cells.lookup x=some c->c≠b)/\∀p∈X.pn++pins,p.1≠b
def Inv.BG{X:Cx}{pins:Va}{σ:St}{H H':Hp}{s:Shared}{b:Addr}(I:Inv X pins σ H s)(hb:s.heap.objs.size<=b)(hn:H' b=none):dm X pins H' b:=by
 refine⟨hn,Kr (Ic I.lt hb),I.ED hb,.inr (Ik I.sz hb),fun x c e z=>?_,fun p hp z=>?_⟩
 ·obtain⟨v,q⟩:=I.cell x c e
  exact absurd (Ic q.lt (by rw[z];exact hb)) (Ju _)
 ·exact absurd (Ic (HS (I.pin p hp).1) (by rw[z];exact hb)) (Ju _)
structure ko (P:Program) (w:World) (K:Vo) (tg:Expr) (J:It) (fp:List Addr) (it:Addr) (tn:Nat->Heap->Prop):Prop where
 mem:it∈fp
 obj:∀i h,tn i h->∀b∈fp,∃o,h.get? b=some o/\∀v,o.data ≠ .cell v
 keep:∀i h h',tn i h->(∀b∈fp,∀o,h.get? b=some o->h'.get? b=some o)->tn i h'
 item:∀(X:Cx),X.prog=P->X.w=w->X.K=K->X.calm=true->∀(i:Nat) (pins:Va) (s:Shared) (σ:St) (H:Hp) (E:Vq),Inv X pins σ H s->(∀b∈fp,dm X pins H b)->tn i s.heap->J.go i H->
  wpAny (model P w) X.A (pyNext (.ref it)) (fun r s1=>∃u,r=some u/\
   wpAny (model P w) X.A (letOwnedTupleGo tg (.ref it) u) (fun _ s2=>∃x H',Inv X pins σ H' s2/\RelV x u/\J.E5 i H x H'/\tn (i+1) s2.heap/\∀b∈fp,H' b=none) E s1) E s
 done:∀(X:Cx),X.prog=P->X.w=w->X.K=K->X.calm=true->∀(i:Nat) (pins:Va) (s:Shared) (σ:St) (H:Hp) (E:Vq),Inv X pins σ H s->(∀b∈fp,dm X pins H b)->tn i s.heap->J.stop i H->
  wpAny (model P w) X.A (pyNext (.ref it)) (fun r s1=>r=none/\Inv X pins σ H s1) E s
 self:∀(A:Around) (i:Nat) (s:Shared) (Q:Vq) (E:Vq),tn i s.heap->Q (.ref it) s->wpAny (model P w) A (pyIter (.ref it)) Q E s
abbrev TI:=St->Hp->(It->Hp->Prop)->Prop
def yo(X:Cx)(pins:Va)(σ:St)(tg:Expr)(R:It->Hp->Prop)(itv:Value)(s2:Shared):Prop:=
 ∃(it:Addr) (fp:List Addr) (tn:Nat->Heap->Prop) (J:It) (H':Hp),itv = .ref it/\Inv X pins σ H' s2/\ko X.prog X.w X.K tg J fp it tn/\tn 0 s2.heap/\(∀b∈fp,dm X pins H' b)/\R J H'
def PI(X:Cx)(tg iter:Expr)(wi:TI):Prop:=
 ∀(pins:Va) (s:Shared) (σ:St) (H:Hp) (R:It->Hp->Prop),Inv X pins σ H s->wi σ H R->
  wpAny (model X.prog X.w) X.A (eval iter X.env) (fun v s1=>wpAny (model X.prog X.w) X.A (pyIter v) (yo X pins σ tg R) X.xe s1) X.xe s
def mL {M : Model} {A : Around} {E : Value -> Shared -> Prop} {s : Shared} {tg : Expr} {it : Addr} {u : Value} {o : Obj} {n : String} {vs : Array Value} {Q : Unit -> Shared -> Prop} (ho : s.heap.get? it = some o) (hc : o.cls = .type n) (hd : o.data = .fields vs)
    (hn : ["enumerate", "zip", "dict_itemiterator", "dict_reverseitemiterator", "odict_iterator", "itertools.zip_longest", "itertools.pairwise"].contains n = false) (hQ : Q () s) : wpAny M A (letOwnedTupleGo tg (.ref it) u) Q E s := by
  unfold letOwnedTupleGo
  cases tg <;> first
    | exact HR hQ
    | (cases u <;> first
        | exact HR hQ
        | (refine HK (wpAny_load ho ?_)
           rw [hc, hd]
           show wpAny M A (if (["enumerate", "zip", "dict_itemiterator", "dict_reverseitemiterator", "odict_iterator", "itertools.zip_longest", "itertools.pairwise"].contains n && vs[0]? == some (rawInt _)) = true then _ else _) Q E s
           rw [if_neg (by intro h; rw [hn, Bool.false_and] at h; cases h)]
           exact HR hQ))
noncomputable def xP(K:Vo)(a:Addr):It:=
 ⟨fun i H=>∃xs x,SqL K H a xs/\xs[i]?=some x,fun i H x H'=>H'=H/\∀xs,SqL K H a xs->xs[i]?=some x,fun i H=>∃xs,SqL K H a xs/\xs.length<=i⟩
noncomputable def yp(K:Vo)(a:Addr):It:=
 ⟨fun i H=>∃xs x,SqT K H a xs/\xs[i]?=some x,fun i H x H'=>H'=H/\∀xs,SqT K H a xs->xs[i]?=some x,fun i H=>∃xs,SqT K H a xs/\xs.length<=i⟩
noncomputable def xQ(lo:Int)(n:Nat):It:=⟨fun i _=>i < n,fun i H x H'=>H'=H/\x = .int (lo+i),fun i _=>n<=i⟩
def nA{P:Program}{w:World}{K:Vo}{tg:Expr}(a it:Addr):ko P w K tg (xP K a) [it] it (fun i h=>h.IsListIter it a i) where
 mem:=by simp
 obj:=fun i h st b hb=>by
  have e:b=it:=by simpa using hb
  subst e
  obtain⟨o,e,c,d⟩:=st
  exact⟨o,e,fun v z=>by rw[d]at z;cases z⟩
 keep:=fun i h h' st k=>st.at fun o e=>k it (by simp) o e
 item:=by
  intro X hP hw hK hc i pins s σ H E I hf st hg
  subst hP hw hK
  obtain⟨xs,x,hq,hx⟩:=hg
  obtain⟨its,rv,p,hz⟩:=I.list hq
  obtain⟨u,hu,ru⟩:=rv.get hx
  obtain⟨f0,f1,f2,f3,f4,f5⟩:=hf it (by simp)
  refine wpAny_pyNext_list_item st p.isList (x:=u) (by simpa using hu) fun h' st' sb=>?_
  have I1:Inv X pins σ H { s with heap:=h' }:=I.turned (t':=s.toks) (fun b o hb e=>(sb.2 b hb).trans e) f0 f1 f3 f4 f5
  obtain⟨o,e,c,d⟩:=id st'
  exact⟨u,rfl,mL (s:={ s with heap:=h' }) e c d (by decide) ⟨x,H,I1,ru,⟨rfl,fun ys hy=>by rw[I.B2 hy hq];exact hx⟩,st',fun b hb=>(hf b hb).1⟩⟩
 done:=by
  intro X hP hw hK hc i pins s σ H E I hf st hg
  subst hP hw hK
  obtain⟨xs,hq,hx⟩:=hg
  obtain⟨its,rv,p,hz⟩:=I.list hq
  obtain⟨f0,f1,f2,f3,f4,f5⟩:=hf it (by simp)
  have hl:=rv.length
  exact wpAny_pyNext_list_end (I.ok.hd hc) st p.isList (by simp;omega) fun h' eb=>⟨rfl,I.turned (t':=s.toks) (fun b o hb e=>eb b o hb e) f0 f1 f3 f4 f5⟩
 self:=fun _ _ _ _ _ st h=>wpAny_pyIter_listiter st h
def lV{P:Program}{w:World}{K:Vo}{tg:Expr}(a it:Addr):ko P w K tg (yp K a) [it] it (fun i h=>h.IsTupleIter it a i) where
 mem:=by simp
 obj:=fun i h st b hb=>by
  have e:b=it:=by simpa using hb
  subst e
  obtain⟨o,e,c,d⟩:=st
  exact⟨o,e,fun v z=>by rw[d]at z;cases z⟩
 keep:=fun i h h' st k=>st.at fun o e=>k it (by simp) o e
 item:=by
  intro X hP hw hK hc i pins s σ H E I hf st hg
  subst hP hw hK
  obtain⟨xs,x,hq,hx⟩:=hg
  obtain⟨its,rv,p,hz⟩:=I.tuple hq
  obtain⟨u,hu,ru⟩:=rv.get hx
  obtain⟨f0,f1,f2,f3,f4,f5⟩:=hf it (by simp)
  refine wpAny_pyNext_tuple_item st (show s.heap.IsTuple a its.toArray from p) (x:=u) (by simpa using hu) fun h' st' sb=>?_
  have I1:Inv X pins σ H { s with heap:=h' }:=I.turned (t':=s.toks) (fun b o hb e=>(sb.2 b hb).trans e) f0 f1 f3 f4 f5
  obtain⟨o,e,c,d⟩:=id st'
  exact⟨u,rfl,mL (s:={ s with heap:=h' }) e c d (by decide) ⟨x,H,I1,ru,⟨rfl,fun ys hy=>by rw[I.BN hy hq];exact hx⟩,st',fun b hb=>(hf b hb).1⟩⟩
 done:=by
  intro X hP hw hK hc i pins s σ H E I hf st hg
  subst hP hw hK
  obtain⟨xs,hq,hx⟩:=hg
  obtain⟨its,rv,p,hz⟩:=I.tuple hq
  obtain⟨f0,f1,f2,f3,f4,f5⟩:=hf it (by simp)
  have hl:=rv.length
  exact wpAny_pyNext_tuple_end (I.ok.hd hc) st (show s.heap.IsTuple a its.toArray from p) (by simp;omega) fun h' eb=>⟨rfl,I.turned (t':=s.toks) (fun b o hb e=>eb b o hb e) f0 f1 f3 f4 f5⟩
 self:=fun _ _ _ _ _ st h=>wpAny_pyIter_tupleiter st h
def lW{P:Program}{w:World}{K:Vo}{tg:Expr}(it:Addr)(lo:Int)(n:Nat):ko P w K tg (xQ lo n) [it] it (fun i h=>IsRangeIter h it (lo+(i:Nat) * 1) ((n:Int) - (i:Nat)) 1) where
 mem:=by simp
 obj:=fun i h st b hb=>by
  have e:b=it:=by simpa using hb
  subst e
  exact⟨_,st,fun v z=>by
   have z':Data.fields _=Data.cell v:=z
   cases z'⟩
 keep:=fun i h h' st k=>k it (by simp) _ st
 item:=by
  intro X hP hw hK hc i pins s σ H E I hf st hg
  subst hP hw hK
  obtain⟨f0,f1,f2,f3,f4,f5⟩:=hf it (by simp)
  have W:=Walks.range (prog:=X.prog) (w:=X.w) (I.ok.hd hc) it lo 1 n
  refine W.item i s _ _ hg st fun v h' tk hv st' kk=>?_
  obtain⟨t,rfl⟩:=hv
  have I1:Inv X pins σ H { s with heap:=h',toks:=tk }:=I.turned (fun b o hb e=>kk b o (by simpa using hb) e) f0 f1 f3 f4 f5
  refine⟨_,rfl,mL (s:={ s with heap:=h',toks:=tk }) (n:="range_iterator") st' rfl rfl (by decide) ⟨.int (lo+i),H,I1,⟨t,?_⟩,⟨rfl,rfl⟩,st',fun b hb=>(hf b hb).1⟩⟩
  rw[Int.mul_one]
 done:=by
  intro X hP hw hK hc i pins s σ H E I hf st hg
  subst hP hw hK
  obtain⟨f0,f1,f2,f3,f4,f5⟩:=hf it (by simp)
  exact wpAny_pyNext_range_end (I.ok.hd hc) st (by have:n<=i:=hg;omega) fun h' eb=>⟨rfl,I.turned (t':=s.toks) (fun b o hb e=>eb b o hb e) f0 f1 f3 f4 f5⟩
 self:=fun _ _ _ _ _ st h=>wpAny_pyIter_rangeiter st h
section
variable {X:Cx} {tg:Expr}
def oR{pins:Va}{σ:St}{H:Hp}{s:Shared}{R:It->Hp->Prop}{E:Vq}{lo hi:Int}{t u v:Tok}{tk:Nat}(I:Inv X pins σ H s)(h1:-(2 ^ 62)<=lo)(h2:lo < 2 ^ 62)(h3:-(2 ^ 62)<=hi)(h4:hi < 2 ^ 62)
  (q:R (xQ lo (hi - lo).toNat) H):wpAny (model X.prog X.w) X.A (pyIter (.ref s.heap.objs.size)) (yo X pins σ tg R) E { s with heap:=s.heap.push { cls:=.type "range",data:=.fields #[.int lo t,.int hi u,.int 1 v] },toks:=tk }:=by
 refine wpAny_pyIter_range (IsRange.new ..) (small_one h1 h2 h3 h4) ?_
 have I1:Inv X pins σ H { s with heap:=s.heap.push { cls:=.type "range",data:=.fields #[.int lo t,.int hi u,.int 1 v] },toks:=tk }:=I.kept fun b o e=>HN _ e
 refine⟨(s.heap.push { cls:=.type "range",data:=.fields #[.int lo t,.int hi u,.int 1 v] }).objs.size,[(s.heap.push { cls:=.type "range",data:=.fields #[.int lo t,.int hi u,.int 1 v] }).objs.size],_,_,H,rfl,
  I1.kept (t':=tk) fun b o e=>HN _ e,lW _ lo (hi - lo).toNat,?_,fun b hb=>?_,q⟩
 ·have e1:lo+((0:Nat):Int) * 1=lo:=by simp
  have e2:(((hi - lo).toNat:Nat):Int) - ((0:Nat):Int)=Builtin.Range.rangeSize lo hi 1:=by rw[rangeSize_one];split<;>omega
  show IsRangeIter _ _ (lo+((0:Nat):Int) * 1) ((((hi - lo).toNat:Nat):Int) - ((0:Nat):Int)) 1
  rw[e1,e2]
  exact Ia _ rfl
 ·have e:b=(s.heap.push { cls:=.type "range",data:=.fields #[.int lo t,.int hi u,.int 1 v] }).objs.size:=by simpa using hb
  subst e
  exact I1.BG (HU _) (I1.hok.fresh (HU _))
def wt(ta:TA):TI:=fun σ H R=>ta σ H fun vs H1=>∃j:Int,vs=[.int j]/\-(2 ^ 62)<=j/\j < 2 ^ 62/\R (xQ 0 j.toNat) H1
def nB{a:Expr}{ta:TA}{p pos:Pos}(hg:Gl X "range")(hm:X.mg "range" = none)(ha:PA X [a] ta)(hs:starEach [a] X.env=[(false,eval a X.env)]:=by rfl):PI X tg (.Call (.Name "range" p) [a] [] pos) (wt ta):=by
 intro pins s σ H R I h
 refine Call_ (df I hg hm boot_range (IC (zX (ha pos pins s σ H _ I h) fun us s1 ⟨vs,H1,I1,r1,q1⟩=>?_) hs rfl))
 obtain⟨j,e,q1,q2,q⟩:=q1
 subst e
 cases r1 with
 |cons r rr=>
  cases rr
  obtain⟨t,rfl⟩:=r
  exact call_range_1 (oR I1 (by omega) (by omega) q1 q2 (by simpa using q))
def yq(wi:TI)(g:TG)(tb:TS):TS:=fun D σ H=>wi σ H fun J H1=>∃W:Nat->Nat->St->Hp->Prop,(∃m,W 0 m σ H1)/\∀i m σ H,W i m σ H->
 (J.stop i H/\D.nx σ H)\/(J.go i H/\∃N:St->Hp->Prop,(∀σ' H',N σ' H'->∃m',m' < m/\W (i+1) m' σ' H')/\∀x H',J.E5 i H x H'->g x σ H' fun σ2 H2=>tb { D with nx:=N,ct:=N,bk:=D.nx } σ2 H2)
noncomputable def iS(fp:List Addr)(h:Heap):List (Addr×Obj):=fp.filterMap fun b=>(h.get? b).map fun o=>(b,o)
def fy{fp:List Addr}{h:Heap}{b:Addr}{o:Obj}(hb:b∈fp)(e:h.get? b=some o):(b,o)∈iS fp h:=List.mem_filterMap.mpr ⟨b,hb,by rw[e];rfl⟩
def nC{fp:List Addr}{h:Heap}{p:Addr×Obj}(hp:p∈iS fp h):p.1∈fp/\h.get? p.1=some p.2:=by
 obtain⟨b,hb,e⟩:=List.mem_filterMap.mp hp
 cases q:h.get? b with
 |none=>rw[q]at e;cases e
 |some o=>
  rw[q]at e
  have e':(b,o)=p:=IY e
  subst e'
  exact⟨hb,q⟩
def Inv.pinned{pins:Va}{σ:St}{H:Hp}{s:Shared}{fp:List Addr}(I:Inv X pins σ H s)(hf:∀b∈fp,dm X pins H b)(ho:∀b∈fp,∃o,s.heap.get? b=some o/\∀v,o.data ≠ .cell v):Inv X (pins++iS fp s.heap) σ H s:=
 I.BY fun p hp=>(HV.mp hp).elim (fun z=>I.pin p (IB _ z)) fun z=>by
  obtain⟨hb,e⟩:=nC z
  obtain⟨f0,f1,f2,_⟩:=hf p.1 hb
  obtain⟨o,e',d⟩:=ho p.1 hb
  rw[e]at e';cases e'
  exact⟨e,f0,f1,f2,d⟩
def Inv.BH{pins pl:Va}{σ:St}{H:Hp}{s:Shared}(I:Inv X (pins++pl) σ H s):Inv X pins σ H s:=I.BY fun p hp=>I.pin p (IB _ (JP _ hp))
def uA{iter:Expr}{body:List Stmt}{wi:TI}{g:TG}{tb:TS}{pos:Pos}(hp:PassesOwn (model X.prog X.w) X.A X.env X.xe)(hc:X.calm=true)(hi:PI X tg iter wi)(hg:PG X tg g)(hb:Ct X body tb)
  (hs:∀x,foldedSetIterable iter X.env x=pure x:=by intro _;rfl):PS X (.For tg iter body [] pos) (yq wi g tb):=by
 intro pins s σ H D I h
 refine wpAny_For (zX (hi pins s σ H _ I h) fun v s1 h1=>zX h1 fun itv s2 h2=>?_) hs
 obtain⟨it,fp,tn,J,H2,e,I2,T,st2,f2,W,⟨m0,w0⟩,turn⟩:=h2
 subst e
 -- what stays true of the iterator's objects through the loop
 have stat:∀{H':Hp},(∀b∈fp,H' b=none)->∀b∈fp,dm X pins H' b:=fun hn b hb=>⟨hn b hb,(f2 b hb).2⟩
 refine codeAny_forLoop_any (fun n s'=>∃i σ' H',Inv X pins σ' H' s'/\tn i s'.heap/\(∀b∈fp,H' b=none)/\W i n σ' H') ?_ m0 ⟨0,σ,H2,I2,st2,fun b hb=>(f2 b hb).1,w0⟩
 rintro n s3 ⟨i,σ3,H3,I3,st3,Gh,w3⟩
 rcases turn i n σ3 H3 w3 with⟨stop,qn⟩|⟨go,N,hN,step⟩
 ·refine JO hp (zX (T.done X rfl rfl rfl hc i pins s3 σ3 H3 X.xe I3 (stat Gh) st3 stop) fun r s4 ⟨hr,I4⟩=>?_)
  subst hr
  exact Le ⟨σ3,H3,I4,qn⟩
 ·refine JO hp (zX (T.item X rfl rfl rfl hc i pins s3 σ3 H3 X.xe I3 (stat Gh) st3 go) fun r s4 ⟨u,hr,h4⟩=>?_)
  subst hr
  refine JO hp (zX h4 fun _ s5 ⟨x,H5,I5,r5,y5,Dz,Ft⟩=>?_)
  have Fu:=I5.pinned (stat Ft) (T.obj _ _ Dz)
  refine JO hp (zX (hg _ s5 σ3 H5 x u _ Fu r5 (step x H5 y5)) fun _ s6 ⟨σ6,H6,I6,q6⟩=>?_)
  refine JO hp (zX (hb _ s6 σ6 H6 _ I6 q6) fun f s7 q7=>?_)
  have again:∀{σ7:St} {H7:Hp},Inv X (pins++iS fp s5.heap) σ7 H7 s7->N σ7 H7->∃m,m < n/\∃i σ' H',Inv X pins σ' H' s7/\tn i s7.heap/\(∀b∈fp,H' b=none)/\W i m σ' H':=fun{σ7 H7} I7 n7=>by
   obtain⟨m',hm,w7⟩:=hN σ7 H7 n7
   refine⟨m',hm,i+1,σ7,H7,I7.BH,T.keep _ _ _ Dz fun b hb o e=>(I7.pin (b,o) (IB _ (IB _ (fy hb e)))).1,fun b hb=>?_,w7⟩
   obtain⟨o,e,d⟩:=T.obj _ _ Dz b hb
   exact(I7.pin (b,o) (IB _ (IB _ (fy hb e)))).2.1
  cases f with
  |next=>obtain⟨σ7,H7,I7,n7⟩:=q7;exact again I7 n7
  |cont=>obtain⟨σ7,H7,I7,n7⟩:=q7;exact again I7 n7
  |brk=>obtain⟨σ7,H7,I7,q7⟩:=q7;exact⟨σ7,H7,I7.BH,q7⟩
  |ret v=>obtain⟨x7,σ7,H7,I7,r7,q7⟩:=q7;exact⟨x7,σ7,H7,I7.BH,r7,q7⟩
end
abbrev R2:=V->V->Hp->VK->Prop
def fW(X:Cx)(f:Value->Value->Sem Value)(r:R2):Prop:=
 ∀(pins:Va) (s:Shared) (σ:St) (H:Hp) (x y:V) (v u:Value) (Q:VK),Inv X pins σ H s->RelV x v->RelV y u->r x y H Q->
  wpAny (model X.prog X.w) X.A (f v u) (EP X pins σ Q) X.xe s
def xR(X:Cx)(f:Value->Sem Value)(r:V->Hp->VK->Prop):Prop:=
 ∀(pins:Va) (s:Shared) (σ:St) (H:Hp) (x:V) (v:Value) (Q:VK),Inv X pins σ H s->RelV x v->r x H Q->
  wpAny (model X.prog X.w) X.A (f v) (EP X pins σ Q) X.xe s
def fX(X:Cx)(f:Value)(r:List V->Hp->VK->Prop):Prop:=
 ∀(pins:Va) (s:Shared) (σ:St) (H:Hp) (xs:List V) (us:Vv) (Q:VK),Inv X pins σ H s->Vals xs us->r xs H Q->
  wpAny (model X.prog X.w) X.A (call f us) (EP X pins σ Q) X.xe s
def wu(r:R2)(ta tb:TE):TE:=fun σ H Q=>ta σ H fun x H1=>tb σ H1 fun y H2=>r x y H2 Q
def zt(r:V->Hp->VK->Prop)(ta:TE):TE:=fun σ H Q=>ta σ H fun x H1=>r x H1 Q
def rI(C:Int->Int->Prop)(g:Int->Int->V):R2:=fun x y H Q=>∃i j,x = .int i/\y = .int j/\C i j/\Q (g i j) H
def rD(g:Int->Int->V):R2:=fun x y H Q=>∃i j,x = .int i/\y = .int j/\Q (g i j) H
noncomputable def rU(g:Int->V):V->Hp->VK->Prop:=fun x H Q=>∃i,x = .int i/\Q (g i) H
section
variable {X:Cx} {a b c:Expr} {ta tb tc:TE} {pos:Pos}
def uB(ha:PE X a ta)(hb:PE X b tb){pins:Va}{s:Shared}{σ:St}{H:Hp}{R:V->V->Hp->Prop}(I:Inv X pins σ H s)
  (h:ta σ H fun x H1=>tb σ H1 fun y H2=>R x y H2) {Q:Vq} {f:Value->Value->Sem Value}
  (hf:∀v u s2 x y H2,Inv X pins σ H2 s2->RelV x v->RelV y u->R x y H2->wpAny (model X.prog X.w) X.A (f v u) Q X.xe s2) :
  wpAny (model X.prog X.w) X.A (eval a X.env) (fun v s₁=>wpAny (model X.prog X.w) X.A (eval b X.env) (fun u s₂=>wpAny (model X.prog X.w) X.A (f v u) Q X.xe s₂) X.xe s₁) X.xe s:=by
 refine zX (ha pins s σ H _ I h) fun v s1 ⟨x,H1,I1,r1,q1⟩=>?_
 refine zX (hb pins s1 σ H1 _ I1 q1) fun u s2 ⟨y,H2,I2,r2,q2⟩=>?_
 exact hf v u s2 x y H2 I2 r1 r2 q2
def wv{op:Operator}{r:R2}(ho:fW X (binaryOp op) r)(ha:PE X a ta)(hb:PE X b tb):PE X (.BinOp a op b pos) (wu r ta tb):=by
 intro pins s σ H Q I h
 exact wpAny_BinOp (uB ha hb I h fun v u s2 x y H2 I2 rx ry q=>ho pins s2 σ H2 x y v u Q I2 rx ry q)
def ww{op:UnaryOp}{r:V->Hp->VK->Prop}(ho:xR X (unaryOp op) r)(ha:PE X a ta):PE X (.UnaryOp op a pos) (zt r ta):=by
 intro pins s σ H Q I h
 exact UnaryOp_ (zX (ha pins s σ H _ I h) fun v s1 ⟨x,H1,I1,r1,q1⟩=>ho pins s1 σ H1 x v Q I1 r1 q1)
def xS{f:Value->Value->Sem Value}{C:Int->Int->Prop}{g:Int->Int->Int}
  (rule:∀(i j:Int) (t u:Tok) (s:Shared) (Q:Vq) (E:Vq),C i j->Q (.int (g i j) s.toks) { s with toks:=s.toks+1 }->wpAny (model X.prog X.w) X.A (f (.int i t) (.int j u)) Q E s) :
  fW X f (rI C fun i j=>.int (g i j)):=by
 intro pins s σ H x y v u Q I rx ry h
 obtain⟨i,j,rfl,rfl,hc,q⟩:=h
 obtain⟨t,rfl⟩:=rx
 obtain⟨t',rfl⟩:=ry
 exact rule i j t t' s _ _ hc ⟨.int (g i j),H,I.tok _,⟨_,rfl⟩,q⟩
def wx{f:Value->Value->Sem Value}{g:Int->Int->Int}
  (rule:∀(i j:Int) (t u:Tok) (s:Shared) (Q:Vq) (E:Vq),Q (.int (g i j) s.toks) { s with toks:=s.toks+1 }->wpAny (model X.prog X.w) X.A (f (.int i t) (.int j u)) Q E s) :
  fW X f (rD fun i j=>.int (g i j)):=by
 intro pins s σ H x y v u Q I rx ry h
 obtain⟨i,j,rfl,rfl,q⟩:=h
 obtain⟨t,rfl⟩:=rx
 obtain⟨t',rfl⟩:=ry
 exact rule i j t t' s _ _ ⟨.int (g i j),H,I.tok _,⟨_,rfl⟩,q⟩
def uC{f:Value->Value->Sem Value}{g:Int->Int->Bool}
  (rule:∀(i j:Int) (t u:Tok) (s:Shared) (Q:Vq) (E:Vq),Q (.bool (g i j)) s->wpAny (model X.prog X.w) X.A (f (.int i t) (.int j u)) Q E s) :
  fW X f (rD fun i j=>.bl (g i j)):=by
 intro pins s σ H x y v u Q I rx ry h
 obtain⟨i,j,rfl,rfl,q⟩:=h
 obtain⟨t,rfl⟩:=rx
 obtain⟨t',rfl⟩:=ry
 exact rule i j t t' s _ _ ⟨.bl (g i j),H,I,rfl,q⟩
def uD(i j:Int):Prop:=0<=j/\j<=1000000/\i.natAbs < 2 ^ 64
def DA(i j:Int):Prop:=(-(2 ^ 64) < i/\i < 2 ^ 64)\/(-(2 ^ 64) < j/\j < 2 ^ 64)
def DA.ok{i j:Int}(h:DA i j):IntMulOk i j:=by
 rcases h with⟨h1,h2⟩|⟨h1,h2⟩
 ·exact .of_left (intBits_le_64 h1 h2)
 ·exact .of_right (intBits_le_64 h1 h2)
def uE:fW X (binaryOp .Add) (rD fun i j=>.int (i+j)):=wx fun _ _ _ _ _ _ _ q=>add_int q
def uF:fW X (binaryOp .Sub) (rD fun i j=>.int (i - j)):=wx fun _ _ _ _ _ _ _ q=>sub_int q
def rE:fW X (binaryOp .Mod) (rI (fun _ j=>j≠0) fun i j=>.int (i.fmod j)):=xS fun _ _ _ _ _ _ _ hc q=>mod_int' hc q
def uG:fW X (binaryOp .Pow) (rI uD fun i j=>.int (i ^ j.toNat)):=xS fun _ _ _ _ _ _ _ hc q=>pow_int_small hc.1 hc.2.1 hc.2.2 q
def zu{f:Value->Sem Value}{g:Int->Int}
  (rule:∀(i:Int) (t:Tok) (s:Shared) (Q:Vq) (E:Vq),Q (.int (g i) s.toks) { s with toks:=s.toks+1 }->wpAny (model X.prog X.w) X.A (f (.int i t)) Q E s) :
  xR X f (rU fun i=>.int (g i)):=by
 intro pins s σ H x v Q I rx h
 obtain⟨i,rfl,q⟩:=h
 obtain⟨t,rfl⟩:=rx
 exact rule i t s _ _ ⟨.int (g i),H,I.tok _,⟨_,rfl⟩,q⟩
def uH:xR X (unaryOp .USub) (rU fun i=>.int (-i)):=zu fun _ _ _ _ _ q=>neg_int q
end
noncomputable def wy:V->V->Bool
 | .non,.non=>true | .non,.int _=>true | .int _,.non=>true | .non,.bl _=>true | .bl _,.non=>true | .non,.str _=>true | .str _,.non=>true
 | .int _,.int _=>true | .bl _,.bl _=>true | .str _,.str _=>true | .Dc _,.Dc _=>true
 | .int _,.str _=>true | .str _,.int _=>true | .bl _,.str _=>true | .str _,.bl _=>true
 |_,_=>false
def zv:R2:=fun x y H Q=>wy x y=true/\Q (.bl (decide (x=y))) H
def zw:R2:=fun x y H Q=>wy x y=true/\Q (.bl (!decide (x=y))) H
def mM{i j:Int}:decide (V.int i=V.int j)=(i == j):=by
 rw[J9]
 simp
def oS{i j:Bool}:decide (V.bl i=V.bl j)=(i == j):=by
 rw[J9]
 simp
def mN{i j:Str}:decide (V.str i=V.str j)=(i == j):=by
 rw[J9]
 simp
def mO{i j:Array UInt8}:decide (V.Dc i=V.Dc j)=(i.toList == j.toList):=by
 rw[J9]
 cases i
 cases j
 simp
section
variable {X:Cx} {a b c:Expr} {ta tb tc:TE} {pos:Pos}
def aG{pins:Va}{σ:St}{H:Hp}{s:Shared}{Q:VK}{k k':Bool}(I:Inv X pins σ H s)(q:Q (.bl k) H)(e:k=k'):EP X pins σ Q (.bool k') s:=by
 subst e
 exact⟨.bl k,H,I,rfl,q⟩
def oU:fW X (compareOp .Eq) zv:=by
 intro pins s σ H x y v u Q I rx ry h
 obtain⟨hs,q⟩:=h
 cases x with
 |non=>
  cases rx
  cases y with
  |non=>cases ry;exact PySem.EqNone.eq_none_none (aG I q (by simp))
  |bl j=>cases ry;exact PySem.EqNone.eq_none_bool (aG I q (by simp))
  |int j=>obtain⟨t',rfl⟩:=ry;exact PySem.EqNone.eq_none_int (aG I q (by simp))
  |str j=>obtain⟨t',rfl⟩:=ry;exact PySem.EqNone.eq_none_str (aG I q (by simp))
  |_=>exact absurd (show false=true from hs) Ip
 |bl i=>
  cases rx
  cases y with
  |non=>cases ry;exact PySem.EqNone.eq_bool_none (aG I q (by simp))
  |bl j=>cases ry;exact eq_bool (aG I q oS)
  |str j=>obtain⟨t',rfl⟩:=ry;exact PySem.EqMixed.eq_bool_str (aG I q (by simp))
  |_=>exact absurd (show false=true from hs) Ip
 |int i=>
  obtain⟨t,rfl⟩:=rx
  cases y with
  |non=>cases ry;exact PySem.EqNone.eq_int_none (aG I q (by simp))
  |int j=>obtain⟨t',rfl⟩:=ry;exact eq_int (aG I q mM)
  |str j=>obtain⟨t',rfl⟩:=ry;exact PySem.EqMixed.eq_int_str (aG I q (by simp))
  |_=>exact absurd (show false=true from hs) Ip
 |str i=>
  obtain⟨t,rfl⟩:=rx
  cases y with
  |non=>cases ry;exact PySem.EqNone.eq_str_none (aG I q (by simp))
  |bl j=>cases ry;exact PySem.EqMixed.eq_str_bool (aG I q (by simp))
  |int j=>obtain⟨t',rfl⟩:=ry;exact PySem.EqMixed.eq_str_int (aG I q (by simp))
  |str j=>obtain⟨t',rfl⟩:=ry;exact eq_str (aG I q mN)
  |_=>exact absurd (show false=true from hs) Ip
 |Dc i=>
  obtain⟨t,rfl⟩:=rx
  cases y with
  |Dc j=>obtain⟨t',rfl⟩:=ry;exact PySem.W.eq_bytes (aG I q mO)
  |_=>exact absurd (show false=true from hs) Ip
 |_=>cases y<;>exact absurd (show false=true from hs) Ip
def oV:fW X (compareOp .NotEq) zw:=by
 intro pins s σ H x y v u Q I rx ry h
 obtain⟨hs,q⟩:=h
 cases x with
 |non=>
  cases rx
  cases y with
  |non=>cases ry;exact PySem.EqNone.ne_none_none (aG I q (by simp))
  |bl j=>cases ry;exact PySem.EqNone.ne_none_bool (aG I q (by simp))
  |int j=>obtain⟨t',rfl⟩:=ry;exact PySem.EqNone.ne_none_int (aG I q (by simp))
  |str j=>obtain⟨t',rfl⟩:=ry;exact PySem.EqNone.ne_none_str (aG I q (by simp))
  |_=>exact absurd (show false=true from hs) Ip
 |bl i=>
  cases rx
  cases y with
  |non=>cases ry;exact PySem.EqNone.ne_bool_none (aG I q (by simp))
  |bl j=>cases ry;exact ne_bool (aG I q (I9 not oS))
  |str j=>obtain⟨t',rfl⟩:=ry;exact PySem.EqMixed.ne_bool_str (aG I q (by simp))
  |_=>exact absurd (show false=true from hs) Ip
 |int i=>
  obtain⟨t,rfl⟩:=rx
  cases y with
  |non=>cases ry;exact PySem.EqNone.ne_int_none (aG I q (by simp))
  |int j=>obtain⟨t',rfl⟩:=ry;exact ne_int (aG I q (I9 not mM))
  |str j=>obtain⟨t',rfl⟩:=ry;exact PySem.EqMixed.ne_int_str (aG I q (by simp))
  |_=>exact absurd (show false=true from hs) Ip
 |str i=>
  obtain⟨t,rfl⟩:=rx
  cases y with
  |non=>cases ry;exact PySem.EqNone.ne_str_none (aG I q (by simp))
  |bl j=>cases ry;exact PySem.EqMixed.ne_str_bool (aG I q (by simp))
  |int j=>obtain⟨t',rfl⟩:=ry;exact PySem.EqMixed.ne_str_int (aG I q (by simp))
  |str j=>obtain⟨t',rfl⟩:=ry;exact ne_str (aG I q (I9 not mN))
  |_=>exact absurd (show false=true from hs) Ip
 |Dc i=>
  obtain⟨t,rfl⟩:=rx
  cases y with
  |Dc j=>obtain⟨t',rfl⟩:=ry;exact PySem.W.ne_bytes (aG I q (I9 not mO))
  |_=>exact absurd (show false=true from hs) Ip
 |_=>cases y<;>exact absurd (show false=true from hs) Ip
def wA:fW X (compareOp .Lt) (rD fun i j=>.bl (decide (i < j))):=uC fun _ _ _ _ _ _ _ q=>lt_int q
def wB:fW X (compareOp .Gt) (rD fun i j=>.bl (decide (j < i))):=uC fun _ _ _ _ _ _ _ q=>gt_int q
def wC:fW X (compareOp .GtE) (rD fun i j=>.bl (decide (j<=i))):=uC fun _ _ _ _ _ _ _ q=>ge_int q
def nE:fW X (compareOp .In) (fun x y H Q=>∃i j,x = .str i/\y = .str j/\Q (.bl (!(Builtin.Str.occurrences j i 0 j.length 1).isEmpty)) H):=by
 intro pins s σ H x y v u Q I rx ry h
 obtain⟨i,j,rfl,rfl,q⟩:=h
 obtain⟨t,rfl⟩:=rx
 obtain⟨t',rfl⟩:=ry
 exact in_str (aG I q rfl)
def rF:fW X (compareOp .IsNot) (fun x y H Q=>y = .non/\Q (.bl (!decide (x = .non))) H):=by
 intro pins s σ H x y v u Q I rx ry h
 obtain⟨rfl,q⟩:=h
 cases ry
 refine isnot_none_gen (aG I q ?_)
 cases x<;>first
  |(cases rx;rfl)
  |(obtain⟨t,rfl⟩:=rx;rfl)
def aW(b:Expr){op:CmpOp}(h:op ≠ .In:=by decide)(h2:op ≠ .NotIn:=by decide):behindInMarks op b=false:=by
 have e1:(op == CmpOp.In)=false:=by cases op<;>first|rfl|exact absurd rfl h
 have e2:(op == CmpOp.NotIn)=false:=by cases op<;>first|rfl|exact absurd rfl h2
 cases b<;>simp[behindInMarks,e1,e2]
def rG{op:CmpOp}{r:R2}(ho:fW X (compareOp op) r)(ha:PE X a ta)(hb:PE X b tb)(hm:behindInMarks op b=false):PE X (.Compare a [op] [b] pos) (wu r ta tb):=by
 intro pins s σ H Q I h
 exact wpAny_Compare1 (uB ha hb I h fun v u s2 x y H2 I2 rx ry q=>ho pins s2 σ H2 x y v u Q I2 rx ry q) hm
def wD(t:TE):TT:=fun σ H Q=>t σ H fun x H'=>∃k,x = .bl k/\Q k H'
def rH{op:CmpOp}{r:R2}(ho:fW X (compareOp op) r)(ha:PE X a ta)(hb:PE X b tb)(hm:behindInMarks op b=false):PT X (.Compare a [op] [b] pos) (wD (wu r ta tb)):=by
 intro pins s σ H Q I h
 refine wpAny_isTrue_Compare1 (zX (ha pins s σ H _ I h) fun v s1 ⟨x,H1,I1,r1,q1⟩=>zX (hb pins s1 σ H1 _ I1 q1) fun u s2 ⟨y,H2,I2,r2,q2⟩=>
  zX (ho pins s2 σ H2 x y v u _ I2 r1 r2 q2) fun c s3 ⟨z,H3,I3,r3,k,e,q3⟩=>?_) hm
 subst e
 cases r3
 exact JQ ⟨H3,I3,q3⟩
def gE:(sizeLine:Nat) < 2 ^ 63:=by rw[sizeLine_eq];decide
def lX:fW X (binaryOp .Add) (fun x y H Q=>∃i j,x = .str i/\y = .str j/\i.length+j.length<=sizeLine/\Q (.str (i++j)) H):=by
 intro pins s σ H x y v u Q I rx ry h
 obtain⟨i,j,rfl,rfl,hz,q⟩:=h
 obtain⟨t,rfl⟩:=rx
 obtain⟨t',rfl⟩:=ry
 exact add_str (fun t' tk=>⟨.str (i++j),H,I.tok _,⟨_,rfl⟩,q⟩) hz
def fY{x:V}{us:Vv}(r:Vals [x] us):∃u,us=[u]/\RelV x u:=by
 cases r with
 |cons r1 r2=>cases r2;exact⟨_,rfl,r1⟩
def oW{x y:V}{us:Vv}(r:Vals [x,y] us):∃u w',us=[u,w']/\RelV x u/\RelV y w':=by
 cases r with
 |cons r1 r2=>
  cases r2 with
  |cons r3 r4=>cases r4;exact⟨_,_,rfl,r1,r3⟩
def nF(hc:X.calm=true):fX X (.builtin "max") (fun xs H Q=>∃i j,xs=[.int i,.int j]/\Q (.int (if j > i then j else i)) H):=by
 intro pins s σ H xs us Q I r h
 obtain⟨i,j,rfl,q⟩:=h
 obtain⟨u,w',rfl,⟨t,rfl⟩,⟨t',rfl⟩⟩:=oW r
 refine max_two_ints (I.ok.hd hc) fun h' tk k=>⟨_,H,I.kept k,?_,q⟩
 by_cases hj:j > i
 ·rw[if_pos hj,if_pos hj];exact⟨_,rfl⟩
 ·rw[if_neg hj,if_neg hj];exact⟨_,rfl⟩
end
def RelO.some_of{v:V}{o:Option Value}(r:RelO (some v) o):∃u,o=some u/\RelV v u:=by
 cases o with
 |none=>exact(show False from r).elim
 |some u=>exact⟨u,rfl,r⟩
structure Room (k:Nat) (A:Around):Prop where
 hd:A.handled=none
 dp:A.depth+3 * k+5 < recursionLimit
 un:A.units+16 * k+200 < cLine
 gd:A.guards=some []
def Room.mono{j k:Nat}{A:Around}(r:Room k A)(h:j<=k):Room j A:=⟨r.hd,by have:=r.dp;omega,by have:=r.un;omega,r.gd⟩
theorem Room.deeper{k:Nat}{A:Around}(r:Room (k+1) A)(env:Env):Room k (A.deeper env):=
 ⟨r.hd,by have:=r.dp;show A.depth+1+3 * k+5 < _;omega,by have:=r.un;show A.units+3+16 * k+200 < _;omega,r.gd⟩
theorem Room.depth{k:Nat}{A:Around}(r:Room k A):A.depth < recursionLimit:=by have:=r.dp;omega
def wE:TA:=fun _ H Q=>Q [] H
def tK(ta:TE)(tr:TA):TA:=fun σ H Q=>ta σ H fun x H1=>tr σ H1 fun xs H2=>Q (x::xs) H2
section
variable {X:Cx} {e:Expr} {es:List Expr} {te:TE} {t:TA} {pos:Pos}
def uI:PA X [] wE:=fun _ _ _ _ H Q I h=>JR ⟨[],H,I,.nil,h⟩
def rJ(ha:PE X e te)(hr:PA X es t)(hs:starEach (e::es) X.env=(false,eval e X.env)::starEach es X.env:=by rfl):PA X (e::es) (tK te t):=by
 intro pos pins s σ H Q I h
 rw[hs]
 show wpAny _ _ (spliced ((false,eval e X.env)::backTo pos (starEach es X.env))) _ _ s
 refine Ji (zX (ha pins s σ H _ I h) fun u s1 ⟨x,H1,I1,r1,q1⟩=>?_)
 exact zX (hr pos pins s1 σ H1 _ I1 q1) fun us s2 ⟨xs,H2,I2,r2,q2⟩=>⟨x::xs,H2,I2,.cons r1 r2,q2⟩
def yr(t:TA):TE:=fun σ H Q=>t σ H fun xs H1=>xs.length<=sizeLine/\∀p,H1 p=none->Q (.ref p) (upd H1 p (.tup xs))
def yt(t:TA):TE:=fun σ H Q=>t σ H fun xs H1=>xs.length<=sizeLine/\∀p,H1 p=none->Q (.ref p) (upd H1 p (.lst xs))
def uJ{x1}(h:PA X es t):PE X (.Tuple es x1 pos) (yr t):=by
 intro pins s σ H Q I hq
 refine wpAny_Tuple_spliced (zX (h pos pins s σ H _ I hq) fun us s1 ⟨xs,H1,I1,r,z,q⟩=>⟨by rw[<-r.length];exact z,?_⟩)
 have hf:H1 s1.heap.objs.size=none:=I1.hok.fresh (HU _)
 refine⟨.ref s1.heap.objs.size,upd H1 s1.heap.objs.size (.tup xs),I1.laid (t':=s1.toks) (fun b u e=>HN _ e) (HU _) ?_,rfl,q _ hf⟩
 exact⟨z,us,r,⟨_,Ia _ rfl,rfl,rfl,_,rfl⟩⟩
def uK(h:PA X es t):PE X (.List es pos) (yt t):=by
 intro pins s σ H Q I hq
 refine wpAny_List_spliced (zX (h pos pins s σ H _ I hq) fun us s1 ⟨xs,H1,I1,r,z,q⟩=>⟨by rw[<-r.length];exact z,?_⟩)
 have hf:H1 s1.heap.objs.size=none:=I1.hok.fresh (HU _)
 refine⟨.ref s1.heap.objs.size,upd H1 s1.heap.objs.size (.lst xs),I1.laid (t':=s1.toks) (fun b u e=>HN _ e) (HU _) ?_,rfl,q _ hf⟩
 exact⟨z,us,0,r,Ia _ rfl⟩
end
abbrev Sp:=List V->Hp->VK->XK->Prop
abbrev qX:=List Env->Hp->Shared->XK->Value->Shared->Prop
structure rK (P:Program) (w:World) (K:Vo) (mg:Vr) (base:Heap) (A:Around) (outer:List Env) (s:Shared) (H:Hp):Prop where
 frames:A.frames=some outer
 mod:Mod K mg base
 bs:∀b o,base.get? b=some o->s.heap.get? b=some o/\H b=none
 Dy:base.objs.size<=s.heap.objs.size
 BW:s.heap.FunFrames base outer
 D9:∀b∈frs outer,H b=none
 hok:Bx P w H s.heap
 bare:AllBare s.gens
def CE(outer:List Env)(P:Program)(w:World)(H:Hp)(s:Shared)(Q:VK)(u:Value)(s':Shared):Prop:=
 ∃v H',s'.os=s.os/\AllBare s'.gens/\Un (frs outer) [] H H' s.heap s'.heap/\Bx P w H' s'.heap/\RelV v u/\Q v H'
def CR(CX:qX)(outer:List Env)(P:Program)(w:World)(H:Hp)(s:Shared)(Q:VK)(E:XK)(r:Result)(s':Shared):Prop:=
 match r with
 | .ok (.ret u)=>CE outer P w H s Q u s'
 | .ok _=>False
 | .error e=>CX outer H s E e s'
structure jB (P:Program) (w:World) (K:Vo) (mg:Vr) (base:Heap) (CX:qX) (k:Nat) (f:Addr) (fd:FuncData) (ps:Vs) (sp:Sp):Prop where
 len:∀vs H Q E,sp vs H Q E->vs.length=ps.length
 run:∀(A:Around) (outer:List Env) (s:Shared) (H:Hp) (args:Args) (us:Vv) (vs:List V) (Q:VK) (E:XK),Room k A->rK P w K mg base A outer s H->BindsTo s fd args (ps.zip us)->Vals vs us->sp vs H Q E->
  codeAny (model P w) A (.call (.ref f) args) (CR CX outer P w H s Q E) s
section
variable {X:Cx} {pins:Va} {σ:St} {H:Hp} {s s':Shared}
def Inv.Fv(I:Inv X pins σ H s):rK X.prog X.w X.K X.mg X.base X.A X.stack s H:=
 ⟨I.ok.frames,I.ok.mod,I.bs,Ik I.ok.Dy I.sz,I.stack,I.CO,I.hok,I.bare⟩
def Inv.after{Q:VK}{u:Value}(I:Inv X pins σ H s)(h:CE X.stack X.prog X.w H s Q u s'):EP X pins σ Q u s':=by
 obtain⟨v,H',os,bare,un,hok,r,q⟩:=h
 obtain⟨hh,g,d,t,os'⟩:=s'
 obtain rfl:os'=s.os:=os
 exact⟨v,H',I.call (h':=hh) (g':=g) (d':=d) (t':=t) (ch:=[]) un hok bare (fun b z=>absurd z (by simp)),r,q⟩
end
def wF(sp:Sp)(dvs:List V)(E:XK)(t:TA):TE:=fun σ H Q=>t σ H fun vs H1=>sp (vs++dvs) H1 Q E
def Binds(K:Vo)(fd:FuncData)(ps:Vs)(ds:Vv):Prop:=
 ∀(s:Shared) (us:Vv),K.In s.heap->(us++ds).length=ps.length->BindsTo s fd ⟨us,[]⟩ (ps.zip (us++ds))
def Binds.all{K:Vo}{fd:FuncData}{ps:Vs}(h:∀us:List Value,us.length=ps.length->bindArgs fd ⟨us,[]⟩=pure (ps.zip us)):Binds K fd ps []:=fun s us _ hl=>by
 rw[Iw]at hl ⊢
 exact .of_eq (h us hl)
def lY(CX:qX)(X:Cx)(E:XK):Prop:=∀(pins:Va) (σ:St) (H:Hp) (s:Shared) (e:Value) (s':Shared),Inv X pins σ H s->CX X.stack H s E e s'->X.xe e s'
section
variable {X:Cx} {CX:qX} {k:Nat} {f C:Addr} {fd:FuncData} {ps:Vs} {sp:Sp} {dvs:List V} {ds:Vv} {E:XK} {x m:Str} {p pos apos:Pos} {e o:Expr} {es:List Expr} {ta:TE} {t:TA}
def uL{pins:Va}{σ:St}{H:Hp}{s:Shared}{Q:VK}{us:Vv}{vs:List V}(F:jB X.prog X.w X.K X.mg X.base CX k f fd ps sp)(hr:Room k X.A)(hb:Binds X.K fd ps ds)(hd:Vals dvs ds)(hx:lY CX X E)
  (I:Inv X pins σ H s) (r:Vals vs us) (h:sp (vs++dvs) H Q E):wpAny (model X.prog X.w) X.A (call (.ref f) us) (EP X pins σ Q) X.xe s:=by
 have r2:Vals (vs++dvs) (us++ds):=r.append hd
 have hl:(us++ds).length=ps.length:=by rw[<-r2.length];exact F.len _ _ _ _ h
 refine wpAny_call (codeAny_mono (F.run X.A X.stack s H ⟨us,[]⟩ (us++ds) (vs++dvs) Q E hr I.Fv (hb s us I.De hl) r2 h) fun r s' hq=>?_)
 cases r with
 |error e=>exact hx pins σ H s e s' I hq
 |ok fl=>
  cases fl with
  |ret u=>exact I.after hq
  |next=>exact False.elim hq
  |brk=>exact False.elim hq
  |cont=>exact False.elim hq
def mP(F:jB X.prog X.w X.K X.mg X.base CX k f fd ps sp)(hr:Room k X.A)(hg:Gl X x)(hm:X.mg x=some (.ref f))(hk:PySem.W.keepIn X.K (.ref f)=true)(hb:Binds X.K fd ps ds)(hd:Vals dvs ds)(hx:lY CX X E)
  (ha:PA X (e::es) t) (hdb:(x == ("__debug__":Str))=false:=by decide) (he:starEach (e::es) X.env=(false,eval e X.env)::starEach es X.env:=by rfl) (hpl:(backTo pos (starEach es X.env)).any (·.1)=false:=by rfl) :
  PE X (.Call (.Name x p) (e::es) [] pos) (wF sp dvs E t):=by
 intro pins s σ H Q I h
 refine Jr (mK I hg hm ?_ hdb)
 refine PySem.W.callWith_K (h₀:=X.base) I.ok.mod.Fn hk (zX (ha pos pins s σ H _ I h) fun us s1 ⟨vs,H1,I1,r,q⟩=>⟨I1.De,?_⟩) he hpl
 exact uL F hr hb hd hx I1 r q
end
structure cv (N P:Vs) (sc:Scope):Prop where
 kind:sc.kind = .function
 co:sc.isCoroutine=false
 gen:sc.isGenerator=false
 nd:N.Nodup
 pre:N.take P.length=P
 par:∀x∈P,sc.names.lookup x=some .local\/sc.names.lookup x=some .cell
 Ec:∀y∈sc.names,y.2 ≠ .free
theorem jQ{kindOf:Str->Option NameKind}{x:Str}:∀{binds:List (Str×Value)} {m:Vr},(∀v,(x,v) ∉ binds)->bindL kindOf binds m x=m x
 |[],_,_=>rfl
 |(n,v)::r,m,h=>by
  unfold bindL
  rw[jQ fun w hw=>h w (Jk _ hw)]
  split
  ·have:x≠n:=by rintro rfl;exact h v Jh
   simp[this]
  ·rfl
theorem jR{kindOf:Str->Option NameKind}{x:Str}:∀{binds:List (Str×Value)} {m:Vr},(∀v,(x,v) ∉ binds)->bindC kindOf binds m x=m x
 |[],_,_=>rfl
 |(n,v)::r,m,h=>by
  unfold bindC
  rw[jR fun w hw=>h w (Jk _ hw)]
  split
  ·rfl
  ·have:x≠n:=by rintro rfl;exact h v Jh
   simp[this]
theorem jS{kindOf:Str->Option NameKind}{x:Str}{v:Value}:∀{P:Vs} {vs:Vv} {i:Nat} {m:Vr},P.Nodup->P[i]?=some x->vs[i]?=some v->kindOf x=some .local->
  bindL kindOf (P.zip vs) m x=some v
 |[],_,_,_,_,h,_,_=>by simp at h
 |_::_,[],_,_,_,_,h,_=>by simp at h
 |p::P,w::vs,0,m,nd,h1,h2,hk=>by
  simp at h1 h2;subst h1;subst h2
  show bindL kindOf ((p,w)::P.zip vs) m p=_
  unfold bindL
  rw[jQ fun v hv=>(Jd.mp nd).1 (Lf hv).1,if_pos hk]
  simp
 |p::P,w::vs,i+1,m,nd,h1,h2,hk=>by
  show bindL kindOf ((p,w)::P.zip vs) m x=_
  unfold bindL
  exact jS (i:=i) (Jd.mp nd).2 (by simpa using h1) (by simpa using h2) hk
theorem jT{kindOf:Str->Option NameKind}{x:Str}{v:Value}:∀{P:Vs} {vs:Vv} {i:Nat} {m:Vr},P.Nodup->P[i]?=some x->vs[i]?=some v->kindOf x≠some .local->
  bindC kindOf (P.zip vs) m x=some v
 |[],_,_,_,_,h,_,_=>by simp at h
 |_::_,[],_,_,_,_,h,_=>by simp at h
 |p::P,w::vs,0,m,nd,h1,h2,hk=>by
  simp at h1 h2;subst h1;subst h2
  show bindC kindOf ((p,w)::P.zip vs) m p=_
  unfold bindC
  rw[jR fun v hv=>(Jd.mp nd).1 (Lf hv).1,if_neg hk]
  simp
 |p::P,w::vs,i+1,m,nd,h1,h2,hk=>by
  show bindC kindOf ((p,w)::P.zip vs) m x=_
  unfold bindC
  exact jT (i:=i) (Jd.mp nd).2 (by simpa using h1) (by simpa using h2) hk
noncomputable def d3(N:Vs)(vs:List V):St:=vs.map some++List.replicate (N.length - vs.length) none
noncomputable def k9(CX:qX)(P:Program)(w:World)(K:Vo)(mg:Vr)(base:Heap)(N:Vs)(qual:Str)(scope:Scope)(f:Addr)(cd:Value)(A:Around)(outer:List Env)(s:Shared)(H:Hp)(E:XK):Cx where
 prog:=P
 w:=w
 K:=K
 mg:=mg
 base:=base
 A:=A.deeper (envOfC qual scope s.heap.objs.size f cd)
 N:=N
 s₀:=s
 H₀:=H
 env:=envOfC qual scope s.heap.objs.size f cd
 outer:=outer
 stack:=envOfC qual scope s.heap.objs.size f cd::outer
 ex:=[]
 calm:=true
 fn:=fun _=>true
 pn:=[]
 xe:=fun e s'=>wpAny (model P w) (A.deeper (envOfC qual scope s.heap.objs.size f cd)) (leaving (envOfC qual scope s.heap.objs.size f cd) e) (fun _ s''=>CX outer H s E e s'') (fun e' s''=>CX outer H s E e' s'') s'
def k_{sc:Scope}{n:Nat}{x:Str}(h:sc.names.lookup x=some .cell):∃c,(cellsFrom n sc.names []).lookup x=some c:=by
 have q:=PySem.W.cellsFrom_some sc.names n [] (.inl h)
 exact Option.isSome_iff_exists.mp q
def nG{CX:qX}{P:Program}{w:World}{K:Vo}{mg:Vr}{base:Heap}{N ps:Vs}{qual:Str}{scope:Scope}{f:Addr}{cd:Value}{A:Around}{outer:List Env}{s s1:Shared}{H:Hp}{E:XK}{us:Vv}{vs:List V}
  (S:cv N ps scope) (hd:A.handled=none) (e0:rK P w K mg base A outer s H) (hl:vs.length=ps.length) (r:Vals vs us)
  (x:InCallC s s.heap.objs.size (bindL (envOfC qual scope s.heap.objs.size f cd).kindOf (ps.zip us) fun _=>none) (cellsFrom (s.heap.objs.size+1) scope.names []) (bindC (envOfC qual scope s.heap.objs.size f cd).kindOf (ps.zip us) fun _=>none) s1) :
  Inv (k9 CX P w K mg base N qual scope f cd A outer s H E) [] (d3 N vs) H s1:=by
 have hpl:ps.length<=N.length:=by have:=I9 List.length S.pre;rw[IG]at this;omega
 obtain⟨h1,tk,rfl,hk⟩:=x.done
 have EH:∀b:Addr,b ∉ (k9 CX P w K mg base N qual scope f cd A outer s H E).ex:=fun b z=>absurd (show b∈([]:List Addr)from z) (by simp)
 refine⟨⟨e0.mod,S.kind,rfl,rfl,HU _,fun y z c h1 h2=>?_,fun y hy=>?_,fun y c _ h=>?_,fun _=>hd,Around.frames_deeper e0.frames,.inr ⟨rfl,rfl⟩,fun b z=>absurd z (EH b),e0.bs,e0.Dy,fun b _ _=>EH b,fun b z=>absurd z (EH b),e0.BW,e0.D9⟩,
  rfl,e0.bare,Un.kept hk,⟨_,x.toInCall.ns,fun i y v h1 h2 h3=>?_⟩,fun y c h=>⟨_,x.cell y c h⟩,e0.hok.fresh (HU _),fun y c h=>?_,fun p hp=>absurd (show p∈([]:Va)from hp) (by simp),e0.hok.kept hk,?_⟩
 ·exact name_of_addr x.apart (JE h1) (JE h2)
 ·have hy:scope.names.lookup y=some .cell\/scope.names.lookup y=some .free:=hy
  rcases hy with hy|hy
  ·exact k_ hy
  ·exact absurd rfl (S.Ec _ (JE hy))
 ·exact KQ (x.above y c (JE h))
 ·have hi:i < vs.length:=by
   unfold d3 at h2
   by_cases hi:i < vs.length
   ·exact hi
   ·rw[IM (by simpa using hi)]at h2
    rw[JA]at h2
    split at h2<;>cases h2
  have ha:vs[i]?=some v:=by
   unfold d3 at h2
   rw[IF (by simpa using hi),HY]at h2
   cases e:vs[i]? with
   |none=>rw[e]at h2;cases h2
   |some a=>rw[e]at h2;cases h2;rfl
  obtain⟨u,hu,rv⟩:=r.get ha
  have hp:ps[i]?=some y:=by
   rw[<-S.pre,List.getElem?_take_of_lt (by omega)];exact h1
  have Gi:ps.Nodup:=by rw[<-S.pre];exact S.nd.sublist (Lq _ _)
  refine⟨u,rv,?_⟩
  rcases S.par y (Ir hp)with k|k
  ·exact .inl ⟨k,jS Gi hp hu k⟩
  ·obtain⟨c,e⟩:=k_ (n:=s.heap.objs.size+1) k
   refine .inr ⟨.inl k,c,e,?_⟩
   have q:=x.cell y c e
   rw[jT Gi hp hu (by show scope.names.lookup y≠_;rw[k];decide)]at q
   exact q
 ·exact e0.hok.fresh (KQ (x.above y c (JE h)))
 ·unfold d3
  show _=N.length
  rw[HL,HM,IL]
  omega
def tL{CX:qX}{P:Program}{w:World}{K:Vo}{mg:Vr}{base:Heap}{k:Nat}{f:Addr}{name qual:Str}{params:Arguments}{body:List Stmt}{scope:Scope}{dV kV doc pm cdv ct oc:Value}{an od:Option Addr}
  {osl:Array (Option Value)} {N ps:Vs} {sp:Sp} (lk:K.lookup f=some ⟨oc,od,.func (PySem.W.fnOf name qual params body scope dV kV doc pm an cdv ct),osl⟩) (hcd:PySem.W.codeIn K cdv qual=true) (S:cv N ps scope)
  (len:∀vs H Q E,sp vs H Q E->vs.length=ps.length)
  (hbody:∀(A:Around) (outer:List Env) (s:Shared) (H:Hp) (vs:List V) (Q:VK) (E:XK),Room k (A.deeper (envOfC qual scope s.heap.objs.size f cdv))->sp vs H Q E->
   ∃t,Ct (k9 CX P w K mg base N qual scope f cdv A outer s H E) body t/\t { nx:=fun _ H'=>Q .non H',rt:=Q } (d3 N vs) H) :
  jB P w K mg base CX (k+1) f (PySem.W.fnOf name qual params body scope dV kV doc pm an cdv ct) ps sp:=by
 refine⟨len,fun A outer s H args us vs Q E hr e0 hb r Ds=>?_⟩
 have hl:=len _ _ _ _ Ds
 have KX:K.In s.heap:=e0.mod.Fn.keeps fun b o e=>(e0.bs b o e).1
 have lim:s.heap.NoLimit:=e0.mod.nolimit.keeps fun b o e=>(e0.bs b o e).1
 have hkind:∀y∈ps.zip us,scope.names.lookup y.1=some .local\/(scope.names.lookup y.1=some .cell/\((cellsFrom (s.heap.objs.size+1) scope.names []).lookup y.1).isSome=true):=fun⟨n,v⟩ hy=>by
  rcases S.par n (Lf hy).1 with q|q
  ·exact .inl q
  ·exact .inr ⟨q,PySem.W.cellsFrom_some _ _ _ (.inl q)⟩
 refine codeAny_call_function hr.depth (KX _ _ lk) rfl S.co S.gen rfl (PySem.W.codeRec_of KX hcd) (hb _ _ _ _ ?_)
 refine wpAny_newFunctionEnv_cells S.kind hkind fun env he s1 x=>?_
 subst he
 refine⟨lim.keeps x.toInCall.keep,codeAny_func ?_⟩
 obtain⟨t,ht,hq⟩:=hbody A outer s H vs Q E (hr.deeper _) Ds
 have I:Inv (k9 CX P w K mg base N qual scope f cdv A outer s H E) [] (d3 N vs) H s1:=nG S hr.hd e0 hl r x
 refine J3 (ht [] s1 (d3 N vs) H _ I hq) (fun fl s' hs=>?_) fun e s' hs=>hs
 have fin:∀{σ':St} {H':Hp} {v:V} {u:Value},Inv (k9 CX P w K mg base N qual scope f cdv A outer s H E) [] σ' H' s'->RelV v u->Q v H'->CE outer P w H s Q u s':=
  fun{σ' H' v u} J rv q=>⟨v,H',J.os,J.bare,J.base,J.hok,rv,q⟩
 cases fl with
 |ret u=>
  obtain⟨v,σ',H',J,rv,q⟩:=hs
  exact fin J rv q
 |next=>
  obtain⟨σ',H',J,q⟩:=hs
  exact fin (v:=V.non) (u:=Value.none) J rfl q
 |brk=>
  obtain⟨_,_,_,q⟩:=hs
  exact False.elim q
 |cont=>
  obtain⟨_,_,_,q⟩:=hs
  exact False.elim q
section
variable {X:Cx} {x:Str} {p pos:Pos} {e:Expr} {es:List Expr} {t:TA} {id T:String} {r:List V->Hp->VK->Prop}
def zh(r:List V->Hp->VK->Prop)(t:TA):TE:=fun σ H Q=>t σ H fun vs H1=>r vs H1 Q
def oX(hc:fX X (.builtin id) r)(hg:Gl X x)(hm:X.mg x=none)(hv:bootBuiltins x=some (.builtin id))(ha:PA X (e::es) t)(hn:x ≠ "__name__":=by decide)(hdb:(x == ("__debug__":Str))=false:=by decide)
  (he:starEach (e::es) X.env=(false,eval e X.env)::starEach es X.env:=by rfl) (hpl:(backTo pos (starEach es X.env)).any (·.1)=false:=by rfl):PE X (.Call (.Name x p) (e::es) [] pos) (zh r t):=by
 intro pins s σ H Q I h
 refine Jr (df I hg hm hv ?_ hn hdb)
 exact PyProof.Rows.callWith_builtin1 (zX (ha pos pins s σ H _ I h) fun us s1 ⟨vs,H1,I1,r1,q1⟩=>hc pins s1 σ H1 vs us Q I1 r1 q1) he hpl
def nH(hc:fX X (.type T) r)(hg:Gl X x)(hm:X.mg x=none)(hv:bootBuiltins x=some (.type T))(ha:PA X (e::es) t)(hn:x ≠ "__name__":=by decide)(hdb:(x == ("__debug__":Str))=false:=by decide)
  (he:starEach (e::es) X.env=(false,eval e X.env)::starEach es X.env:=by rfl) (hpl:(backTo pos (starEach es X.env)).any (·.1)=false:=by rfl):PE X (.Call (.Name x p) (e::es) [] pos) (zh r t):=by
 intro pins s σ H Q I h
 refine Jr (df I hg hm hv ?_ hn hdb)
 exact IC (zX (ha pos pins s σ H _ I h) fun us s1 ⟨vs,H1,I1,r1,q1⟩=>hc pins s1 σ H1 vs us Q I1 r1 q1) he hpl
end
end L2
namespace HT
open PySem PyProof.Rows
section
open PySem.SeqAt
open PySem.AutoSeq1 (wpAny_loadPart')
open PySem.MeetsSeq PySem.MeetsSeq2 PySem.MeetsSeq3
end
section
variable {prog:Program} {w:World} {A:Around} {E:Vq} {s:Shared}
def rL{t b:Addr}{vs ws:Vv}{Q:Vq}(ht:IsTup s.heap t vs.toArray)(hb:IsTup s.heap b ws.toArray)(hv:vs≠[])
  (h1:ws=[]->Q (.ref t) s) (h2:ws≠[]->Q (.ref s.heap.objs.size) { s with heap:=s.heap.push { cls:=.type "tuple",data:=.seq (vs++ws).toArray } })
  (hsz:vs.length+ws.length<=sizeLine):wpAny (model prog w) A (binaryOp .Add (.ref t) (.ref b)) Q E s:=by
 obtain⟨⟨cls,dd,data,sl⟩,ho,hc,n,hd⟩:=id ht
 obtain⟨⟨Fw,dd2,data2,sl2⟩,ho2,hc2,n2,hd2⟩:=id hb
 simp only at hc hd hc2 hd2
 subst hc hd hc2 hd2
 have e:vs.toArray++ws.toArray=(vs++ws).toArray:=by simp
 by_cases hw:ws=[]
 ·exact concat_meets ⟨_,ho,rfl⟩ ⟨_,ho2,rfl⟩ noFill_tuple_add seq_tuple_add KS KO (Ky _ _)
   (tuple_addW1 t b vs.toArray ws.toArray n n2 dd dd2 sl sl2 (by simpa using hv) (by simp[hw])) ⟨ho,ho2,h1 hw⟩
 ·refine concat_meets ⟨_,ho,rfl⟩ ⟨_,ho2,rfl⟩ noFill_tuple_add seq_tuple_add KS KO (Ky _ _)
   (tuple_addW2 t b vs.toArray ws.toArray n n2 dd dd2 sl sl2 (by simpa using hv) (by simpa using hw) (by rw[HQ,HQ];exact hsz)) ⟨ho,ho2,?_⟩
  rw[e]
  exact h2 hw
noncomputable def Aj(n d:Nat):Option Int->Nat
 |none=>d
 |some v=>if v < 0 then (v+(n:Int)).toNat else min v.toNat n
def iT(n d:Nat):Aj n d none=d:=rfl
def mQ(n d k:Nat):Aj n d (some (k:Int))=min k n:=by
 show(if (k:Int) < 0 then ((k:Int)+(n:Int)).toNat else min (k:Int).toNat n)=min k n
 rw[if_neg (by omega),JS]
def uM(n d:Nat)(hd:d<=n)(o:Option Int):Aj n d o<=n:=by
 cases o with
 |none=>exact hd
 |some v=>
  show(if v < 0 then (v+(n:Int)).toNat else min v.toNat n)<=n
  by_cases hv:v < 0
  ·rw[if_pos hv];omega
  ·rw[if_neg hv];exact Nat.min_le_right _ _
def mR(v:Int)(n d:Nat):(if v < 0 then max (v+(n:Int)) 0 else min v (n:Int))=((Aj n d (some v):Nat):Int):=by
 show(if v < 0 then max (v+(n:Int)) 0 else min v (n:Int))=(((if v < 0 then (v+(n:Int)).toNat else min v.toNat n):Nat):Int)
 by_cases hv:v < 0
 ·simp only[if_pos hv];omega
 ·simp only[if_neg hv];omega
def lZ(lo hi:Option Int)(n:Nat):Builtin.Slice.sliceAdjust lo hi 1 (n:Int)=(((Aj n 0 lo:Nat):Int),((Aj n n hi:Nat):Int)):=by
 have h1:¬((1:Int) < 0):=by omega
 unfold Builtin.Slice.sliceAdjust
 simp only[h1,IP]
 refine Prod.ext ?_ ?_
 ·cases lo with
  |none=>rfl
  |some v=>exact mR v n 0
 ·cases hi with
  |none=>rfl
  |some v=>exact mR v n n
def l0(i j:Nat):Builtin.Slice.slicePlaces (i:Int) (j:Int) 1=j - i:=by
 unfold Builtin.Slice.slicePlaces
 have h1:(1:Int) > 0:=by omega
 simp only[h1,IV,Int.ediv_one]
 split<;>omega
def iU{v:Value}{o:Option Int}{Q:Option Int->Shared->Prop}(p:IsPart v o)(h:Q o s):wpAny (model prog w) A (Builtin.Slice.slicePartIndex v) Q E s:=by
 cases p with
 |none=>exact slicePart_none h
 |int i t=>exact slicePart_int h
def dr{sl:Addr}{vl vu:Value}{lo hi:Option Int}{n:Nat}{Q:Int×Int×Nat->Shared->Prop}(hs:s.heap.IsSliceOf sl vl vu .none)(pl:IsPart vl lo)(pu:IsPart vu hi)
  (h:Q (((Aj n 0 lo:Nat):Int),1,Aj n n hi - Aj n 0 lo) s):wpAny (model prog w) A (Builtin.Slice.sliceApplied (.ref sl) (pure (n:Int))) Q E s:=by
 obtain⟨os,hos,hcs,hds⟩:=id hs
 unfold Builtin.Slice.sliceApplied Builtin.Slice.sliceFields
 refine HK (HK (IE hos hds (x:=vl) rfl (HK (IE hos hds (x:=vu) rfl (HK (IE hos hds (x:=.none) rfl (HR ?_)))))))
 refine HK (slicePart_none ?_)
 show wpAny _ _ (if ((1:Int) == 0)=true then _ else _) _ _ s
 rw[if_neg (by decide)]
 refine HK (iU pl (HK (iU pu (HK (HR ?_)))))
 show wpAny _ _ (match Builtin.Slice.sliceAdjust lo hi 1 (n:Int)with|(lo,hi)=>pure (lo,(1:Int),Builtin.Slice.slicePlaces lo hi 1)) _ _ s
 rw[lZ lo hi n]
 show wpAny _ _ (pure (((Aj n 0 lo:Nat):Int),(1:Int),Builtin.Slice.slicePlaces ((Aj n 0 lo:Nat):Int) ((Aj n n hi:Nat):Int) 1)) _ _ s
 rw[l0]
 exact HR h
def oY(xs:Vw)(i k:Nat):((List.range k).filterMap fun(m:Nat)=>xs[((i:Int)+(m:Int) * 1).toNat]?).toArray=((xs.toList.drop i).take k).toArray:=by
 have e:(fun(m:Nat)=>xs[((i:Int)+(m:Int) * 1).toNat]?)=fun m=>xs[i+m]?:=by
  funext m
  have:((i:Int)+(m:Int) * 1).toNat=i+m:=by omega
  rw[this]
 rw[e]
 have:=pick_run xs i k
 rw[List.filterMap_map]at this
 have e2:((fun x=>xs[x]?) ∘ fun x=>i+x)=fun m=>xs[i+m]?:=rfl
 rw[e2]at this
 rw[this]
def fZ{t sl:Addr}{items:Vw}{vl vu:Value}{lo hi:Option Int}{Q:Vq}(ht:IsTup s.heap t items)(hs:s.heap.IsSliceOf sl vl vu .none)(pl:IsPart vl lo)(pu:IsPart vu hi)
  (hw:¬(Aj items.size 0 lo=0/\Aj items.size items.size hi=items.size))
  (h:Q (.ref s.heap.objs.size) { s with heap:=s.heap.push { cls:=.type "tuple",data:=.seq ((items.toList.drop (Aj items.size 0 lo)).take (Aj items.size items.size hi - Aj items.size 0 lo)).toArray } })
  (hsz:items.size<=sizeLine):wpAny (model prog w) A (getItem (.ref t) (.ref sl)) Q E s:=by
 have CP:sizeOk (.seq ((items.toList.drop (Aj items.size 0 lo)).take (Aj items.size items.size hi - Aj items.size 0 lo)).toArray):=by
  show((items.toList.drop (Aj items.size 0 lo)).take (Aj items.size items.size hi - Aj items.size 0 lo)).toArray.size<=sizeLine
  rw[HQ,IG,IQ,Lk]
  omega
 have hj:Aj items.size items.size hi<=items.size:=uM _ _ (HU _) hi
 obtain⟨os,hos,hcs,hds⟩:=id hs
 have Fx:s.TypeIs (.ref sl) "slice":=⟨os,hos,hcs⟩
 unfold getItem
 try with_reducible refine Jv ?_
 first|refine HK (HR ?_)|skip
 refine HK (wpAny_sequenceKey ht.typeIs (by decide) ?_)
 refine HK (IS (name:=Str.ofString "__getitem__") ht.typeIs IK
  (Js IK ht.typeIs entry_tuple_getitem ?_ (args_tuple_getitem _ _)))
 show wpAny _ _ (Builtin.Tuple.tupleItemsOf (.ref t) >>= _) _ _ s
 refine HK (tupleItemsOf_ ht ?_)
 refine HK (KU Fx ?_)
 rw[if_pos (by decide)]
 refine HK (dr hs pl pu ?_)
 have hno:¬((((Aj items.size 0 lo:Nat):Int) == 0&&(1:Int) == 1&&(Aj items.size items.size hi - Aj items.size 0 lo) == items.size)=true):=by
  intro q
  rw[Bool.and_eq_true,Bool.and_eq_true]at q
  have q1:((Aj items.size 0 lo:Nat):Int)=0:=eq_of_beq q.1.1
  have q2:Aj items.size items.size hi - Aj items.size 0 lo=items.size:=eq_of_beq q.2
  exact hw ⟨by omega,by omega⟩
 show wpAny _ _ (if (((Aj items.size 0 lo:Nat):Int) == 0&&(1:Int) == 1&&(Aj items.size items.size hi - Aj items.size 0 lo) == items.size)=true then _ else _) _ _ s
 rw[if_neg hno,oY]
 first
  |exact HK (m:=Builtin.Tuple.tupleExact _) (Ja (HR ⟨_,rfl,HR h⟩) CP)
  |exact HK (m:=Builtin.Tuple.tupleExact _) (Ja (HK (HR (HR ⟨_,rfl,HR h⟩))) CP)
  |exact HK (HK (m:=Builtin.Tuple.tupleExact _) (Ja (HR (HR ⟨_,rfl,HR h⟩)) CP))
  |exact HK (HK (m:=Builtin.Tuple.tupleExact _) (Ja (HR ⟨_,rfl,HR h⟩) CP))
end
end HT
namespace L2
open PySem PySem.Spec PyProof.Rows
abbrev TO:=St->Hp->(Option Int->Hp->Prop)->Prop
def PO(X:Cx)(e:Option Expr)(t:TO):Prop:=
 ∀(pins:Va) (s:Shared) (σ:St) (H:Hp) (Q:Option Int->Hp->Prop),Inv X pins σ H s->t σ H Q->
  wpAny (model X.prog X.w) X.A (evalPart e X.env) (fun u s'=>∃o H',Inv X pins σ H' s'/\IsPart u o/\Q o H') X.xe s
noncomputable def rM:TO:=fun _ H Q=>Q none H
noncomputable def wG(t:TE):TO:=fun σ H Q=>t σ H fun x H1=>∃i,x = .int i/\Q (some i) H1
section
variable {X:Cx} {e:Expr} {te:TE} {lo hi:Option Expr} {tl th:TO} {pos p2:Pos}
def rN:PO X none rM:=by
 intro pins s σ H Q I h
 rw[evalPart_none]
 exact HR ⟨none,H,I,.none,h⟩
def rO(h:PE X e te):PO X (some e) (wG te):=by
 intro pins s σ H Q I hw
 rw[evalPart_some]
 refine zX (h pins s σ H _ I hw) fun u s1 ⟨x,H1,I1,r1,q1⟩=>?_
 obtain⟨i,rfl,q⟩:=q1
 obtain⟨t,rfl⟩:=r1
 exact⟨some i,H1,I1,.int i t,q⟩
def vW(X:Cx)(r:V->Option Int->Option Int->Hp->VK->Prop):Prop:=
 ∀(pins:Va) (s:Shared) (σ:St) (H:Hp) (x:V) (v vl vu:Value) (lo hi:Option Int) (sl:Addr) (Q:VK),Inv X pins σ H s->RelV x v->s.heap.IsSliceOf sl vl vu .none->IsPart vl lo->IsPart vu hi->r x lo hi H Q->
  ∃T id,typeLookup (.type T) "__getitem__" = pure (some (.builtin id))/\s.TypeIs v T/\wpAny (model X.prog X.w) X.A (getItem v (.ref sl)) (EP X pins σ Q) X.xe s
def zx(r:V->Option Int->Option Int->Hp->VK->Prop)(te:TE)(tl th:TO):TE:=fun σ H Q=>te σ H fun x H1=>tl σ H1 fun l H2=>th σ H2 fun u H3=>r x l u H3 Q
def oZ{r:V->Option Int->Option Int->Hp->VK->Prop}(hr:vW X r)(he:PE X e te)(hl:PO X lo tl)(hu:PO X hi th):PE X (.Subscript e (.Slice lo hi none p2) pos) (zx r te tl th):=by
 intro pins s σ H Q I h
 refine Subscript_ (zX (he pins s σ H _ I h) fun v s1 ⟨x,H1,I1,r1,q1⟩=>?_)
 refine wpAny_Slice (zX (hl pins s1 σ H1 _ I1 q1) fun vl s2 ⟨l,H2,I2,pl,q2⟩=>zX (hu pins s2 σ H2 _ I2 q2) fun vu s3 ⟨u,H3,I3,pu,q3⟩=>?_)
 rw[evalPart_none]
 refine HR ?_
 have I4:Inv X pins σ H3 { s3 with heap:=s3.heap.push { cls:=.type "slice",data:=.fields #[vl,vu,.none] } }:=I3.kept (t':=s3.toks) fun b ob q=>HN _ q
 obtain⟨T,id,hT,ht,hg⟩:=hr pins { s3 with heap:=s3.heap.push { cls:=.type "slice",data:=.fields #[vl,vu,.none] } } σ H3 x v vl vu l u s3.heap.objs.size Q I4 r1 (Heap.IsSliceOf.new ..) pl pu q3
 show wpAny (model X.prog X.w) X.A (subscriptTail e (.Slice lo hi none p2) v (.ref s3.heap.objs.size)) (EP X pins σ Q) X.xe { s3 with heap:=s3.heap.push { cls:=.type "slice",data:=.fields #[vl,vu,.none] } }
 exact tail_any (ops:=[.ref s3.heap.objs.size,v]) ht hT hg (by with_unfolding_all rfl)
noncomputable def iV(xs:List V)(lo hi:Option Int):List V:=(xs.drop (HT.Aj xs.length 0 lo)).take (HT.Aj xs.length xs.length hi - HT.Aj xs.length 0 lo)
def ie(xs:List V)(lo hi:Option Int):(iV xs lo hi).length<=xs.length:=by
 unfold iV
 rw[IG,IQ]
 omega
noncomputable def yu(K:Vo):V->Option Int->Option Int->Hp->VK->Prop:=fun x lo hi H Q=>∃a xs,x = .ref a/\SqT K H a xs/\
 ¬(HT.Aj xs.length 0 lo=0/\HT.Aj xs.length xs.length hi=xs.length)/\∀p,H p=none->Q (.ref p) (upd H p (.tup (iV xs lo hi)))
def uN:vW X (yu X.K):=by
 intro pins s σ H x v vl vu lo hi sl Q I rx hs pl pu h
 obtain⟨a,xs,rfl,hx,hw,q⟩:=h
 cases rx
 obtain⟨its,r,ht,hz⟩:=I.tuple hx
 have hlen:its.toArray.size=xs.length:=by rw[HQ];exact r.length.symm
 refine⟨"tuple",_,IK.lookup,ht.typeIs,?_⟩
 refine HT.fZ ht hs pl pu (by rw[hlen];exact hw) ?_ (by rw[hlen];exact hz)
 rw[hlen]
 refine⟨.ref s.heap.objs.size,_,I.laid (t':=s.toks) (o:=.tup (iV xs lo hi)) (fun b ob q=>HN _ q) (HU _) ?_,rfl,q _ (I.hok.fresh (HU _))⟩
 exact⟨Ik (ie xs lo hi) hz,_,(r.drop (HT.Aj xs.length 0 lo)).take (HT.Aj xs.length xs.length hi - HT.Aj xs.length 0 lo),As.new _ _⟩
def wH(K:Vo):R2:=fun x y H Q=>∃a b xs ys,x = .ref a/\y = .ref b/\SqT K H a xs/\SqT K H b ys/\xs≠[]/\xs.length+ys.length<=sizeLine/\
 (ys=[]->Q (.ref a) H)/\(ys≠[]->∀p,H p=none->Q (.ref p) (upd H p (.tup (xs++ys))))
def Vals.Cf{xs:List V}{us:Vv}(r:Vals xs us):us=[]↔xs=[]:=by
 cases r with
 |nil=>simp
 |cons _ _=>simp
def rP:fW X (binaryOp .Add) (wH X.K):=by
 intro pins s σ H x y v u Q I rx ry h
 obtain⟨a,b,xs,ys,rfl,rfl,ha,hb,hx,hz,q1,q2⟩:=h
 cases rx
 cases ry
 obtain⟨its,r1,p1,_⟩:=I.tuple ha
 obtain⟨its2,r2,p2,_⟩:=I.tuple hb
 refine HT.rL p1 p2 (fun z=>hx (r1.Cf.mp z)) (fun z=>⟨.ref a,H,I,rfl,q1 (r2.Cf.mp z)⟩) (fun z=>?_) (by rw[<-r1.length,<-r2.length];exact hz)
 refine⟨.ref s.heap.objs.size,_,I.laid (t':=s.toks) (o:=.tup (xs++ys)) (fun b ob q=>HN _ q) (HU _) ?_,rfl,q2 (fun w=>z (r2.Cf.mpr w)) _ (I.hok.fresh (HU _))⟩
 exact⟨by rw[HL];exact hz,_,r1.append r2,As.new _ _⟩
end
noncomputable def nI(n:Nat)(i:Int):Option Nat:=if 0<=i then (if i < n then some i.toNat else none) else if -(n:Int)<=i then some (i+n).toNat else none
noncomputable def AD{α:Type}(xs:List α)(i:Int):Option α:=(nI xs.length i).bind fun j=>xs[j]?
def mS{n:Nat}{i:Int}{j:Nat}(h:nI n i=some j):seqIndex? i n=some j/\j < n/\-(n:Int)<=i/\i < n:=by
 unfold nI at h
 by_cases h0:0<=i
 ·rw[if_pos h0]at h
  by_cases h1:i < n
  ·rw[if_pos h1]at h
   have e:i.toNat=j:=IY h
   exact⟨by rw[seqIndex_of h0 h1,e],by omega,by omega,h1⟩
  ·rw[if_neg h1]at h;cases h
 ·rw[if_neg h0]at h
  by_cases h1:-(n:Int)<=i
  ·rw[if_pos h1]at h
   have e:(i+n).toNat=j:=IY h
   exact⟨by rw[seqIndex_neg (by omega) h1,e],by omega,h1,by omega⟩
  ·rw[if_neg h1]at h;cases h
def kq{α:Type}{xs:List α}{i:Int}{v:α}(h:AD xs i=some v):∃j,seqIndex? i xs.length=some j/\xs[j]?=some v/\j < xs.length/\-(xs.length:Int)<=i/\i < xs.length:=by
 unfold AD at h
 cases e:nI xs.length i with
 |none=>rw[e]at h;cases h
 |some j=>
  rw[e]at h
  obtain⟨h1,h2,h3,h4⟩:=mS e
  exact⟨j,h1,h,h2,h3,h4⟩
def cw{α:Type}{xs:List α}{j:Nat}{v:α}(h:xs[j]?=some v):AD xs (j:Int)=some v:=by
 have hj:j < xs.length:=(Im.mp h).1
 have e:nI xs.length (j:Int)=some j:=by
  unfold nI
  rw[if_pos (by omega),if_pos (by omega)];simp
 unfold AD;rw[e];exact h
def iJ(b:Expr):Prop:=∀o i,subscripted b false o i=operate [o,i] (getItem o i)
def vX(X:Cx)(r:R2):Prop:=
 ∀(value slice:Expr) (pins:Va) (s:Shared) (σ:St) (H:Hp) (x y:V) (v u:Value) (Q:VK),Inv X pins σ H s->RelV x v->RelV y u->r x y H Q->
  subscripted slice false v u=operate [v,u] (getItem v u)->wpAny (model X.prog X.w) X.A (subscriptTail value slice v u) (EP X pins σ Q) X.xe s
def uO(X:Cx)(id:String)(r:V->List V->Hp->VK->Prop):Prop:=
 ∀(pins:Va) (s:Shared) (σ:St) (H:Hp) (x:V) (xs:List V) (v:Value) (us:Vv) (Q:VK),Inv X pins σ H s->RelV x v->Vals xs us->r x xs H Q->
  wpAny (model X.prog X.w) X.A (call (.builtin id) (v::us)) (EP X pins σ Q) X.xe s
section
variable {X:Cx} {a b:Expr} {ta tb:TE} {pos:Pos}
def wI{r:R2}(hr:vX X r)(ha:PE X a ta)(hb:PE X b tb)(hs:iJ b):PE X (.Subscript a b pos) (wu r ta tb):=by
 intro pins s σ H Q I h
 exact Subscript_ (uB ha hb I h fun v u s2 x y H2 I2 rx ry q=>hr a b pins s2 σ H2 x y v u Q I2 rx ry q (hs _ _))
def yv(K:Vo):R2:=fun x y H Q=>∃p xs i v,x = .ref p/\y = .int i/\SqL K H p xs/\AD xs i=some v/\Q v H
def yw(K:Vo):R2:=fun x y H Q=>∃p xs i v,x = .ref p/\y = .int i/\SqT K H p xs/\AD xs i=some v/\Q v H
def yx:R2:=fun x y H Q=>∃z i c,x = .str z/\y = .int i/\z.length<=sizeLine/\AD z.cps.toList i=some c/\Q (.str ⟨#[c]⟩) H
def mT:vX X (yv X.K):=by
 intro value slice pins s σ H x y v u Q I rx ry h hs
 obtain⟨p,xs,i,z,rfl,rfl,hq,he,q⟩:=h
 cases rx
 obtain⟨t,rfl⟩:=ry
 obtain⟨its,r,pl,hz⟩:=I.list hq
 obtain⟨j,h1,h2,h3,h4,h5⟩:=kq he
 obtain⟨w,ew,rw'⟩:=r.get h2
 have hl:=r.length
 have hn:=gE
 have fin:EP X pins σ Q w s:=⟨z,H,I,rw',q⟩
 by_cases h0:0<=i
 ·have hj:i.toNat=j:=by
   rw[seqIndex_of h0 h5]at h1
   exact IY h1
  exact item_listR pl.isList h0 (by omega) (by rw[hj];simpa using ew) fin hs
 ·have hj:(i+(its.toArray.size:Int)).toNat=j:=by
   rw[seqIndex_neg (by omega) h4]at h1
   rw[HQ,<-hl]
   exact IY h1
  exact subscriptTail_builtinR (x:=w) pl.isList.typeIs slot_list_getitem.lookup
   (wpAny_getItem_list_neg (Q:=fun r s'=>r=w/\EP X pins σ Q r s') pl.isList (by omega) (by rw[HQ]<;>omega) (by omega) (by rw[hj];simpa using ew) ⟨rfl,fin⟩) hs
def uP:vX X (yw X.K):=by
 intro value slice pins s σ H x y v u Q I rx ry h hs
 obtain⟨p,xs,i,z,rfl,rfl,hq,he,q⟩:=h
 cases rx
 obtain⟨t,rfl⟩:=ry
 obtain⟨its,r,pl,hz⟩:=I.tuple hq
 obtain⟨j,h1,h2,h3,h4,h5⟩:=kq he
 obtain⟨w,ew,rw'⟩:=r.get h2
 have hl:=r.length
 have hn:=gE
 have fin:EP X pins σ Q w s:=⟨z,H,I,rw',q⟩
 exact subscriptTail_builtinR (x:=w) pl.typeIs slot_tuple_getitem.lookup
  (getItem_tuple (j:=j) (Q:=fun r s'=>r=w/\EP X pins σ Q r s') pl (by omega) (by omega) (by rw[HQ,<-hl];exact h1) (by simpa using ew) ⟨rfl,fin⟩) hs
def uQ:vX X yx:=by
 intro value slice pins s σ H x y v u Q I rx ry h hs
 obtain⟨z,i,c,rfl,rfl,hz,he,q⟩:=h
 obtain⟨t,rfl⟩:=rx
 obtain⟨t',rfl⟩:=ry
 obtain⟨j,h1,h2,h3,h4,h5⟩:=kq he
 have hl:z.cps.toList.length=z.length:=by simp[Str.length]
 rw[hl]at h1 h4 h5
 have hn:=gE
 exact tail_any (typeIs_str s z t) slot_str_getitem.lookup (getItem_str (c:=c) (by
  have e1:decide (i < -(2 ^ 63:Int))=false:=Iu (by omega)
  have e2:decide (i>=2 ^ 63)=false:=Iu (by omega)
  rw[e1,e2,Bool.or_false]) (by rw[h1];simpa using h2) ⟨.str ⟨#[c]⟩,H,I.tok _,⟨_,rfl⟩,q⟩) hs
def l4(its:Vv)(n j:Nat)(u:Value):Obj.mapSeq (·.setIfInBounds j u) { cls:=.type "list",data:=.seq its.toArray n }={ cls:=.type "list",data:=.seq (its.set j u).toArray n }:=by
 simp[Obj.mapSeq]
theorem Inv.lst{pins:Va}{σ:St}{H:Hp}{s:Shared}{p:Addr}{xs:List V}(I:Inv X pins σ H s)(h:H p=some (.lst xs)) :
  ∃(its:Vv) (n:Nat),Vals xs its/\s.heap.get? p=some { cls:=.type "list",data:=.seq its.toArray n }/\xs.length<=sizeLine:=by
 obtain⟨z,its,n,r,e⟩:=I.hok p _ h
 exact⟨its,n,r,e,z⟩
def Inv.Ed{pins:Va}{σ:St}{H:Hp}{s:Shared}{p:Addr}{xs ys:List V}{its its':Vv}{n n':Nat}{f:Obj->Obj}(I:Inv X pins σ H s)(h:H p=some (.lst xs))
  (ho:s.heap.get? p=some { cls:=.type "list",data:=.seq its.toArray n }) (hf:f { cls:=.type "list",data:=.seq its.toArray n }={ cls:=.type "list",data:=.seq its'.toArray n' }) (r:Vals ys its') (hz:ys.length<=sizeLine) (t:Nat) :
  Inv X pins σ (upd H p (.lst ys)) { s with heap:=s.heap.update p f,toks:=t }:=by
 have e:(s.heap.update p f).get? p=some { cls:=.type "list",data:=.seq its'.toArray n' }:=by
  rw[Jf f ho (by rw[hf]<;>rfl),hf]
 refine I.write (x:=p) (e:=p) (by rw[h];trivial) (.inl rfl) (fun b u hb q=>(Je _ _ (JM hb)).trans q) ⟨_,e⟩ ?_
 exact⟨hz,its',n',r,e⟩
noncomputable def wJ:V->V->V->Hp->(Hp->Prop)->Prop:=fun o i v H Q=>∃p xs k j,o = .ref p/\i = .int k/\H p=some (.lst xs)/\nI xs.length k=some j/\Q (upd H p (.lst (xs.set j v)))
def o0:rq X wJ:=by
 intro pins s σ H o i v ov iv u Q I ro ri rv h
 obtain⟨p,xs,k,j,rfl,rfl,hp,hj,q⟩:=h
 cases ro
 obtain⟨t,rfl⟩:=ri
 obtain⟨its,n,r,ho,hz⟩:=I.lst hp
 obtain⟨h1,h2,h3,h4⟩:=mS hj
 have hl:=r.length
 have hn:=gE
 have I':Inv X pins σ (upd H p (.lst (xs.set j v))) { s with heap:=s.heap.update p (Obj.mapSeq (·.setIfInBounds j u)) }:=
  I.Ed hp ho (l4 its n j u) (r.set rv j) (by rw[List.length_set];exact hz) s.toks
 by_cases h0:0<=k
 ·have hk:k.toNat=j:=by
   rw[seqIndex_of h0 h4]at h1
   exact IY h1
  exact PySem.W.ki_setAt ho h0 (by omega) (by rw[HQ,<-hl];exact h4) (by rw[hk];exact⟨_,I',q⟩)
 ·have hk:(k+(its.toArray.size:Int)).toNat=j:=by
   rw[seqIndex_neg (by omega) h3]at h1
   rw[HQ,<-hl]
   exact IY h1
  exact PySem.W.ki_setBack ho (by omega) (by rw[HQ,<-hl];exact h3) (by omega) (by rw[hk];exact⟨_,I',q⟩)
def kr(lo hi:Option Int)(n:Nat):(sliceBounds lo hi none n).1=((HT.Aj n 0 lo:Nat):Int)/\(sliceBounds lo hi none n).2.1=((HT.Aj n n hi:Nat):Int)/\(sliceBounds lo hi none n).2.2=1:=by
 refine⟨?_,?_,rfl⟩
 ·cases lo with
  |none=>simp[sliceBounds,HT.Aj]
  |some i=>
   simp only[sliceBounds,HT.Aj,Option.getD_none,show(1:Int) > 0 by decide,IV]
   by_cases h:i < 0
   ·simp only[h,IV]<;>omega
   ·simp only[h,IP]<;>omega
 ·cases hi with
  |none=>simp[sliceBounds,HT.Aj]
  |some i=>
   simp only[sliceBounds,HT.Aj,Option.getD_none,show(1:Int) > 0 by decide,IV]
   by_cases h:i < 0
   ·simp only[h,IV]<;>omega
   ·simp only[h,IP]<;>omega
def jC(its:Vv)(lo hi:Option Int):slicePick its.toArray lo hi none=((its.drop (HT.Aj its.length 0 lo)).take (HT.Aj its.length its.length hi - HT.Aj its.length 0 lo)).toArray:=by
 obtain⟨h1,h2,h3⟩:=kr lo hi its.toArray.size
 unfold slicePick
 rw[h1,h2,h3]
 simp only[sliceRange_one,pick_run,HQ]<;>rfl
noncomputable def yy(K:Vo):V->Option Int->Option Int->Hp->VK->Prop:=fun x lo hi H Q=>∃a xs,x = .ref a/\SqL K H a xs/\∀p,H p=none->Q (.ref p) (upd H p (.lst (iV xs lo hi)))
def mU:vW X (yy X.K):=by
 intro pins s σ H x v vl vu lo hi sl Q I rx hs pl pu h
 obtain⟨a,xs,rfl,hx,q⟩:=h
 cases rx
 obtain⟨its,r,ht,hz⟩:=I.list hx
 have hlen:=r.length
 refine⟨"list",_,slot_list_getitem.lookup,ht.isList.typeIs,?_⟩
 refine wpAny_getItem_list_slice ht.isList hs pl pu .none (by simp) ?_ (by rw[HQ]<;>omega)
 rw[jC,<-hlen]
 refine⟨.ref s.heap.objs.size,_,I.laid (t':=s.toks) (o:=.lst (iV xs lo hi)) (fun b ob q=>HN _ q) (HU _) ?_,rfl,q _ (I.hok.fresh (HU _))⟩
 exact⟨Ik (ie xs lo hi) hz,_,0,(r.drop (HT.Aj xs.length 0 lo)).take (HT.Aj xs.length xs.length hi - HT.Aj xs.length 0 lo),Ia _ rfl⟩
def kw:fW X (compareOp .NotIn) (fun x y H Q=>∃i j,x = .str i/\y = .str j/\Q (.bl (!(!(Builtin.Str.occurrences j i 0 j.length 1).isEmpty))) H):=by
 intro pins s σ H x y v u Q I rx ry h
 obtain⟨i,j,rfl,rfl,q⟩:=h
 obtain⟨t,rfl⟩:=rx
 obtain⟨t',rfl⟩:=ry
 exact notIn_str ⟨.bl _,H,I,rfl,q⟩
def dE:fX X (.builtin "len") (fun xs H Q=>∃p ys,xs=[.ref p]/\(SqL X.K H p ys\/SqT X.K H p ys)/\Q (.int ys.length) H):=by
 intro pins s σ H xs us Q I r h
 obtain⟨p,ys,rfl,hq,q⟩:=h
 obtain⟨u,rfl,rx⟩:=fY r
 cases rx
 have hn:=gE
 rcases hq with hq|hq
 ·obtain⟨its,r',pl,hz⟩:=I.list hq
  have hlen:=r'.length
  exact Calls.call_len_list pl.isList (by simp only[HQ]<;>omega) ⟨.int ys.length,H,I.tok _,⟨s.toks+1,by rw[HQ,hlen]⟩,q⟩
 ·obtain⟨its,r',pl,hz⟩:=I.tuple hq
  have hlen:=r'.length
  exact len_tuple pl (by simp only[HQ]<;>omega) ⟨.int ys.length,H,I.tok _,⟨s.toks+1,by rw[HQ,hlen]⟩,q⟩
def ky:fX X (.builtin "len") (fun xs H Q=>∃z,xs=[.str z]/\z.length<=sizeLine/\Q (.int z.length) H):=by
 intro pins s σ H xs us Q I r h
 obtain⟨z,rfl,hz,q⟩:=h
 obtain⟨u,rfl,t,rfl⟩:=fY r
 have hn:=gE
 exact len_str (by omega) ⟨.int z.length,H,I.tok _,⟨_,rfl⟩,q⟩
def fk:fX X (.type "tuple") (fun xs H Q=>∃p ys,xs=[.ref p]/\((SqL X.K H p ys/\∀l,H l=none->Q (.ref l) (upd H l (.tup ys)))\/(SqT X.K H p ys/\Q (.ref p) H))):=by
 intro pins s σ H xs us Q I r h
 obtain⟨p,ys,rfl,h⟩:=h
 obtain⟨u,rfl,rx⟩:=fY r
 cases rx
 rcases h with⟨hq,q⟩|⟨hq,q⟩
 ·obtain⟨its,r',pl,hz⟩:=I.list hq
  have hlen:=r'.length
  refine call_tuple_list pl.isList (fun h' kp=>?_) (by simp only[HQ]<;>omega)
  have I1:Inv X pins σ H { s with heap:=h' }:=I.kept (t':=s.toks) kp
  have I2:Inv X pins σ (upd H h'.objs.size (.tup ys)) { s with heap:=h'.push { cls:=.type "tuple",data:=.seq its.toArray } }:=
   I1.laid (t':=s.toks) (fun b o e=>HN _ e) (HU _) (show Am X.prog X.w _ _ _ (.tup ys)from ⟨hz,its,r',As.new _ _⟩)
  exact⟨.ref h'.objs.size,_,I2,rfl,q _ (I1.hok.fresh (HU _))⟩
 ·obtain⟨its,r',pl,hz⟩:=I.tuple hq
  exact call_tuple_same pl ⟨.ref p,H,I,rfl,q⟩
def xT(K:Vo)(T:String)(x:V)(H:Hp):Prop:=match x with
 | .str _=>T = "str"
 | .int _=>T = "int"
 | .ref p=>(T = "list"/\∃xs,SqL K H p xs)\/(T = "tuple"/\∃o,K.lookup p=some o/\o.cls = .type "tuple"/\o.dict=none) \/
   (T = "dict"/\((∃kvs,H p=some (.dK kvs))\/∃kvs,H p=some (.dT kvs)))\/(T = "set"/\∃S n,H p=some (.set S n))
 |_=>False
def o6{pins:Va}{σ:St}{H:Hp}{s:Shared}{T:String}{x:V}{v:Value}(I:Inv X pins σ H s)(r:RelV x v)(ty:xT X.K T x H) :
  s.TypeIs v T/\∀a,v = .ref a->∃ob,s.heap.get? a=some ob/\ob.dict=none:=by
 cases x with
 |str z=>
  obtain⟨t,rfl⟩:=r
  cases (show T = "str" from ty)
  exact⟨typeIs_str s z t,fun _ e=>nomatch e⟩
 |int i=>
  obtain⟨t,rfl⟩:=r
  cases (show T = "int" from ty)
  exact⟨typeIs_int s i t,fun _ e=>nomatch e⟩
 |ref p=>
  cases r
  rcases ty with⟨rfl,xs,hq⟩|⟨rfl,o,hk,hc,hd⟩|⟨rfl,hk⟩|⟨rfl,S,n,hk⟩
  ·obtain⟨its,_,pl,_⟩:=I.list hq
   refine⟨pl.isList.typeIs,fun a e=>?_⟩
   cases e
   obtain⟨o,n,e,c,hd,_⟩:=pl
   exact⟨o,e,hd⟩
  ·refine⟨⟨o,I.De p o hk,hc⟩,fun a e=>?_⟩
   cases e
   exact⟨o,I.De _ o hk,hd⟩
  ·have z:∃o,s.heap.get? p=some o/\o.ExactDict:=by
    rcases hk with⟨kvs,hk⟩|⟨kvs,hk⟩
    ·obtain⟨_,_,_,_,o,_,_,e,ex,_⟩:=I.hok p _ hk
     exact⟨o,e,ex⟩
    ·obtain⟨_,_,_,_,o,_,_,e,ex,_⟩:=I.hok p _ hk
     exact⟨o,e,ex⟩
   obtain⟨o,e,ex⟩:=z
   refine⟨⟨o,e,ex.1⟩,fun a e2=>?_⟩
   cases e2
   exact⟨o,e,ex.2.1⟩
  ·obtain⟨o,_,_,_,e,ex,_⟩:=I.hok p _ hk
   refine⟨⟨o,e,ex.1⟩,fun a e2=>?_⟩
   cases e2
   exact⟨o,e,ex.2.1⟩
 |_=>exact False.elim ty
def yz(K:Vo)(T:String)(r:V->List V->Hp->VK->Prop)(to:TE):TE:=fun σ H Q=>to σ H fun x H1=>xT K T x H1/\r x [] H1 Q
def zy(K:Vo)(T:String)(r:V->List V->Hp->VK->Prop)(to:TE)(t:TA):TE:=fun σ H Q=>to σ H fun x H1=>xT K T x H1/\t σ H1 fun xs H2=>r x xs H2 Q
variable {o e:Expr} {es:List Expr} {to:TE} {t:TA} {name:Str} {apos cpos:Pos} {T id:String} {r:V->List V->Hp->VK->Prop}
def uR(pa:PlainAttrs T)(slot:Slot T name id)(hty:typeOf (.builtin id)=pure (.type "method_descriptor"))(hm:uO X id r)(ho:PE X o to)
  (hbase:attributeBase o name X.env (eval o X.env)=eval o X.env:=by rfl) (hline:(apos.endLine == cpos.line)=true:=by rfl):PE X (.Call (.Attribute o name apos) [] [] cpos) (yz X.K T r to):=by
 intro pins s σ H Q I h
 refine wpAny_Call_method0_late hbase hline (zX (ho pins s σ H _ I h) fun v s1 ⟨x,H1,I1,r1,ty,q1⟩=>?_)
 obtain⟨h1,h2⟩:=o6 I1 r1 ty
 exact⟨T,id,pa,slot,hty,h1,h2,JG rfl (PySem.evalArgs_none (hm pins s1 σ H1 x [] v [] Q I1 r1 .nil q1))⟩
def wK(pa:PlainAttrs T)(slot:Slot T name id)(hty:typeOf (.builtin id)=pure (.type "method_descriptor"))(hm:uO X id r)(ho:PE X o to)(ha:PA X (e::es) t)
  (hbase:attributeBase o name X.env (eval o X.env)=eval o X.env:=by rfl)
  (hfew:((backTo cpos (starEach (e::es) X.env)).all (fun x=>!x.1)&&(backToKw cpos (keywordEach [] X.env)).all (fun x=>x.1.isSome)
   && decide ((e::es).length+([]:List Keyword).length+(if ([]:List Keyword).isEmpty then 0 else 1) < 30))=true:=by rfl)
  (hline:(apos.endLine == cpos.line)=true:=by rfl) (hs:starEach (e::es) X.env=(false,eval e X.env)::starEach es X.env:=by rfl) (hplain:(backTo cpos (starEach es X.env)).any (·.1)=false:=by rfl) :
  PE X (.Call (.Attribute o name apos) (e::es) [] cpos) (zy X.K T r to t):=by
 intro pins s σ H Q I h
 refine wpAny_Call_method_late hbase hfew hline rfl (zX (ho pins s σ H _ I h) fun v s1 ⟨x,H1,I1,r1,ty,q1⟩=>?_)
 obtain⟨h1,h2⟩:=o6 I1 r1 ty
 refine⟨T,id,pa,slot,hty,h1,h2,?_⟩
 have hA:=ha cpos pins s1 σ H1 _ I1 q1
 rw[hs]at hA ⊢
 refine JG (by show(false || (backTo cpos (starEach es X.env)).any (·.1))=false;rw[hplain]<;>rfl) (Kl ?_)
 exact zX hA fun us s2 ⟨vs,H2,I2,r2,q2⟩=>hm pins s2 σ H2 x vs v us Q I2 r1 r2 q2
end
def wL(X:Cx)(id:String)(r:V->List V->Hp->VK->Prop):Prop:=
 ∀(pins:Va) (s:Shared) (σ:St) (H:Hp) (x:V) (xs:List V) (v:Value) (us:Vv) (Q:VK),Inv X pins σ H s->RelV x v->Vals xs us->r x xs H Q->
  wpAny (model X.prog X.w) X.A (call (.builtin id) (v::us)) (EP X pins σ Q) X.xe s
theorem Vals.one:∀{x:V} {us:Vv},Vals [x] us->∃u,us=[u]/\RelV x u
 |_,_,.cons r .nil=>⟨_,rfl,r⟩
theorem Vals.zero:∀{us:Vv},Vals [] us->us=[]
 |_,.nil=>rfl
theorem Vals.dropLast{xs:List V}{us:Vv}(h:Vals xs us):Vals xs.dropLast us.dropLast:=by
 induction h with
 |nil=>exact .nil
 |cons r t ih=>
  cases t with
  |nil=>exact .nil
  |cons q t'=>exact .cons r ih
theorem Vals.eraseIdx:∀{xs:List V} {us:Vv} (i:Nat),Vals xs us->Vals (xs.eraseIdx i) (us.eraseIdx i)
 |_,_,_,.nil=>.nil
 |_,_,0,.cons _ t=>t
 |_,_,i+1,.cons r t=>.cons r (Vals.eraseIdx i t)
theorem Vals.reverse{xs:List V}{us:Vv}(h:Vals xs us):Vals xs.reverse us.reverse:=by
 induction h with
 |nil=>exact .nil
 |cons r t ih=>rw[KW,KW];exact Vals.append ih (.cons r .nil)
theorem Vals.rep{xs:List V}{us:Vv}(h:Vals xs us):∀k:Nat,Vals (List.replicate k xs).flatten (List.replicate k us).flatten
 |0=>.nil
 |k+1=>by
  rw[IZ,IZ,JT,JT]
  exact Vals.append h (Vals.rep h k)
def l5{α:Type}(l:List α):l.eraseIdx (l.length - 1)=l.dropLast:=by
 induction l with
 |nil=>rfl
 |cons a r ih=>
  cases r with
  |nil=>rfl
  |cons b r=>
   have e:(a::b::r).length - 1=((b::r).length - 1)+1:=by
    have h1:(a::b::r).length=r.length+2:=rfl
    have h2:(b::r).length=r.length+1:=rfl
    omega
   rw[e,List.eraseIdx_cons_succ,ih]
   all_goals rfl
theorem jU{α:Type}:∀(l:List α) (i:Nat),(l.eraseIdx i).length<=l.length
 |[],_=>HU _
 |_::_,0=>Nat.le_succ _
 |_::r,i+1=>Nat.succ_le_succ (jU r i)
theorem jV(its:Vv):∀(k:Nat) (acc:Vv),
  List.foldl (fun x1 x2=>x1++x2) acc.toArray (List.replicate k its.toArray)=(acc++(List.replicate k its).flatten).toArray
 |0,acc=>by simp
 |k+1,acc=>by
  have e:acc.toArray++its.toArray=(acc++its).toArray:=by simp
  have e2:(acc++its)++(List.replicate k its).flatten=acc++(List.replicate (k+1) its).flatten:=by
   rw[IZ,JT,JB]
  rw[<-e2,<-jV its k (acc++its),<-e,IZ,List.foldl_cons]
section
variable {X:Cx} {pins:Va} {σ:St} {H:Hp} {s:Shared} {l b:Addr} {xs ys zs:List V}
def Inv.Df{its its':Vv}{n:Nat}{f:Array Value->Array Value}{t':Nat}(I:Inv X pins σ H s)(hH:H l=some (.lst xs))
  (e:s.heap.get? l=some { cls:=.type "list",data:=.seq its.toArray n }) (hf:f its.toArray=its'.toArray) (hv:Vals ys its') (hz:ys.length<=sizeLine) :
  Inv X pins σ (upd H l (.lst ys)) { s with heap:=s.heap.update l (Obj.mapSeq f),toks:=t' }:=by
 have q:=PySem.IsL.update e f
 rw[hf]at q
 refine I.write (x:=l) (e:=l) (by rw[hH];exact trivial) (.inl rfl) (fun b' u hb hu=>(Je s.heap (Obj.mapSeq f) (JM hb)).trans hu) ⟨_,q⟩ ?_
 exact⟨hz,its',_,hv,q⟩
def Inv.EI{its:Vv}{t':Nat}(I:Inv X pins σ H s)(hv:Vals ys its)(hz:ys.length<=sizeLine) :
  Inv X pins σ (upd H s.heap.objs.size (.lst ys)) { s with heap:=s.heap.push { cls:=.type "list",data:=.seq its.toArray },toks:=t' }:=
 I.laid (fun _ _ q=>HN _ q) (HU _) ⟨hz,its,0,hv,Ia _ rfl⟩
theorem Inv.fresh(I:Inv X pins σ H s):H s.heap.objs.size=none:=I.hok.fresh (HU _)
def Inv.Cg(I:Inv X pins σ H s)(hH:H l=some (.lst xs)):xs.length<=sizeLine/\∃(its:Vv) (n:Nat),Vals xs its/\xs.length=its.length/\s.heap.get? l=some { cls:=.type "list",data:=.seq its.toArray n }:=by
 obtain⟨z,its,n,r,e⟩:=I.hok l _ hH
 exact⟨z,its,n,r,r.length,e⟩
def ld{n:Nat}(h:n<=sizeLine):Builtin.List.listTooLong n=false:=by
 unfold Builtin.List.listTooLong
 exact Iu (by omega)
end
section
variable {X:Cx}
noncomputable def rQ:V->List V->Hp->VK->Prop:=fun x vs H Q=>∃l xs y,x = .ref l/\vs=[y]/\H l=some (.lst xs)/\xs.length < sizeLine/\Q .non (upd H l (.lst (xs++[y])))
def nJ:wL X "list.append" rQ:=by
 intro pins s σ H x vs v us Q I rx rv h
 obtain⟨l,xs,y,rfl,rfl,hH,hz,q⟩:=h
 cases rx
 obtain⟨u,rfl,ru⟩:=rv.one
 obtain⟨z,its,n,r,hl,e⟩:=I.Cg hH
 refine KJ F.slot_list_append ⟨_,e,rfl⟩ F.entry_list_append (F.args_list_append_2 _ _) (PySem.list_append l its.toArray n u (by rw[HQ];omega)) ⟨e,?_⟩
 refine⟨.non,_,I.Df (its':=its++[u]) hH e (by simp) (r.append (.cons ru .nil)) ?_,rfl,q⟩
 rw[HL,HX]
 omega
noncomputable def rR:V->List V->Hp->VK->Prop:=fun x vs H Q=>∃l b xs zs,x = .ref l/\vs=[.ref b]/\H l=some (.lst xs)/\H b=some (.lst zs)/\xs.length+zs.length<=sizeLine/\Q .non (upd H l (.lst (xs++zs)))
def nK:wL X "list.extend" rR:=by
 intro pins s σ H x vs v us Q I rx rv h
 obtain⟨l,b,xs,zs,rfl,rfl,hH,hB,hz,q⟩:=h
 cases rx
 obtain⟨u,rfl,ru⟩:=rv.one
 cases ru
 obtain⟨z,its,n,r,hl,e⟩:=I.Cg hH
 obtain⟨z2,its2,n2,r2,hl2,e2⟩:=I.Cg hB
 have hsz:its.toArray.size+its2.toArray.size<=sizeLine:=by rw[HQ,HQ];omega
 have Dg:¬(!its.toArray.isEmpty&&Builtin.List.listTooLong (its.toArray.size+its2.toArray.size))=true:=by
  rw[ld hsz,Bool.and_false]
  exact Ip
 refine KJ F.slot_list_extend ⟨_,e,rfl⟩ F.entry_list_extend (F.args_list_extend_2 _ _)
  (AutoSeq1.list_extend_list_list_0 l its.toArray n b its2.toArray n2 Dg (by rw[HQ];omega) (by omega)) ⟨e,e2,?_⟩
 refine⟨.non,_,I.Df (its':=its++its2) hH e (by simp) (r.append r2) ?_,rfl,q⟩
 rw[HL]
 omega
noncomputable def yA:V->List V->Hp->VK->Prop:=fun x vs H Q=>∃l xs y,x = .ref l/\vs=[]/\H l=some (.lst xs)/\xs[xs.length - 1]?=some y/\Q y (upd H l (.lst xs.dropLast))
def uS:wL X "list.pop" yA:=by
 intro pins s σ H x vs v us Q I rx rv h
 obtain⟨l,xs,y,rfl,rfl,hH,hy,q⟩:=h
 cases rx
 have GV:=rv.zero
 subst GV
 obtain⟨z,its,n,r,hl,e⟩:=I.Cg hH
 obtain⟨u,hu,ru⟩:=r.get hy
 have hy':its.toArray[its.toArray.size - 1]?=some u:=by
  show its.toArray[its.length - 1]?=some u
  rw[<-Array.getElem?_toList,<-hl]
  exact hu
 refine KJ F.slot_list_pop ⟨_,e,rfl⟩ F.entry_list_pop (F.args_list_pop_1 _) (MeetsSeq.list_pop_last l its.toArray n u hy' (by rw[HQ];omega)) ⟨e,?_⟩
 refine⟨y,_,I.Df (its':=its.dropLast) hH e ?_ r.dropLast ?_,ru,q⟩
 ·show its.toArray.eraseIdxIfInBounds (its.toArray.size - 1)=its.dropLast.toArray
  rw[HQ,K4,l5]
 ·rw[List.length_dropLast]
  omega
noncomputable def uT:V->List V->Hp->VK->Prop:=fun x vs H Q=>∃l xs i k y,x = .ref l/\vs=[.int i]/\H l=some (.lst xs)/\-(2 ^ 63)<=i/\i < 2 ^ 63/\seqIndex? i xs.length=some k/\xs[k]?=some y/\Q y (upd H l (.lst (xs.eraseIdx k)))
def o7:wL X "list.pop" uT:=by
 intro pins s σ H x vs v us Q I rx rv h
 obtain⟨l,xs,i,k,y,rfl,rfl,hH,h1,h2,hk,hy,q⟩:=h
 cases rx
 obtain⟨u,rfl,ru⟩:=rv.one
 obtain⟨t,rfl⟩:=ru
 obtain⟨z,its,n,r,hl,e⟩:=I.Cg hH
 obtain⟨w,hw,rw'⟩:=r.get hy
 refine KJ F.slot_list_pop ⟨_,e,rfl⟩ F.entry_list_pop (F.args_list_pop_2 _ _)
  (MeetsSeq.list_pop_at l its.toArray n i t k w (fitsIndex_both h1 h2) (by rw[HQ,<-hl];exact hk) (by rw[<-Array.getElem?_toList];exact hw) (by rw[HQ];omega)) ⟨e,?_⟩
 refine⟨y,_,I.Df (its':=its.eraseIdx k) hH e ?_ (r.eraseIdx k) ?_,rw',q⟩
 ·show its.toArray.eraseIdxIfInBounds k=(its.eraseIdx k).toArray
  rw[K4]
 ·have:=jU xs k
  omega
def yB:R2:=fun x y H Q=>∃l b xs zs,x = .ref l/\y = .ref b/\H l=some (.lst xs)/\H b=some (.lst zs)/\xs.length+zs.length<=sizeLine/\∀p,H p=none->Q (.ref p) (upd H p (.lst (xs++zs)))
def uU:fW X (binaryOp .Add) yB:=by
 intro pins s σ H x y v u Q I rx ry h
 obtain⟨l,b,xs,zs,rfl,rfl,hH,hB,hz,q⟩:=h
 cases rx
 cases ry
 obtain⟨z,its,n,r,hl,e⟩:=I.Cg hH
 obtain⟨z2,its2,n2,r2,hl2,e2⟩:=I.Cg hB
 refine PySem.P.add_list e e2 ?_ (by rw[HQ,HQ];omega)
 have ea:its.toArray++its2.toArray=(its++its2).toArray:=by simp
 rw[ea]
 exact⟨.ref _,_,I.EI (t':=s.toks) (r.append r2) (by rw[HL];omega),rfl,q _ I.fresh⟩
def yC:R2:=fun x y H Q=>∃l k xs,x = .ref l/\y = .int k/\H l=some (.lst xs)/\-(2 ^ 63)<=k/\k < 2 ^ 63/\xs.length * k.toNat<=sizeLine/\
 ∀p,H p=none->Q (.ref p) (upd H p (.lst (List.replicate k.toNat xs).flatten))
def rT{α:Type}(xs:List α)(k:Nat):(List.replicate k xs).flatten.length=k * xs.length:=by
 induction k with
 |zero=>simp
 |succ k ih=>rw[IZ,JT,HL,ih,Nat.succ_mul,Nat.add_comm]
def uV:fW X (binaryOp .Mult) yC:=by
 intro pins s σ H x y v u Q I rx ry h
 obtain⟨l,k,xs,rfl,rfl,hH,h1,h2,hz,q⟩:=h
 cases rx
 obtain⟨t,rfl⟩:=ry
 obtain⟨z,its,n,r,hl,e⟩:=I.Cg hH
 have hlen:its.toArray.size * k.toNat<=sizeLine:=by rw[HQ,<-hl];exact hz
 have hcap:¬its.toArray.size * k.toNat > (2 ^ 63 - 1) / 8:=by
  have:(sizeLine:Nat)<=(2 ^ 63 - 1) / 8:=by decide
  omega
 have hfit:¬(!Builtin.List.listFitsIndex k)=true:=by
  rw[fitsIndex_both h1 h2]
  exact Ip
 have Dg:¬Builtin.List.listTooLong (its.toArray.size * k.toNat)=true:=by
  rw[ld hlen]
  exact Ip
 have hnew:List.foldl (fun x1 x2=>x1++x2) #[] (List.replicate (if its.toArray.isEmpty=true then 0 else k.toNat) its.toArray)=(List.replicate k.toNat its).flatten.toArray:=by
  have f0:∀m:Nat,List.foldl (fun x1 x2=>x1++x2) #[] (List.replicate m its.toArray)=(List.replicate m its).flatten.toArray:=fun m=>by
   have:=jV its m []
   rw[Jm]at this
   exact this
  rw[f0]
  cases its with
  |nil=>simp
  |cons a r'=>rw[if_neg (by simp)]
 refine wpAny_binaryOp_repeat_ref (T:="list") (U:="int") (by decide) ⟨_,e,rfl⟩ (fun s'=>typeIs_int s' k t) noFill_list_mul F.fills_int_mul F.slot_int_rmul repeat_list F.slot_int_index.lookup
  (KJ F.slot_int_rmul (typeIs_int s k t) F.entry_int_rmul (F.args_int_rmul_2 _ _) (int___rmul___int_list k t l its.toArray n)
   ⟨e,rfl,⟨_,e,rfl⟩,KJ F.slot_list_mul ⟨_,e,rfl⟩ F.entry_list_mul (F.args_list_mul_2 _ _) (AutoListH.list___mul___list_int_3 l its.toArray n k t hfit hcap Dg) ⟨e,?_⟩⟩)
 rw[hnew]
 exact⟨.ref _,_,I.EI (t':=s.toks) (r.rep k.toNat) (by rw[rT,Nat.mul_comm];exact hz),rfl,q _ I.fresh⟩
end
section
variable {κ:Type} [DecidableEq κ]
noncomputable def fg(kvs:List (κ×V))(k:κ):Option V:=(kvs.find? fun kv=>decide (kv.1=k)).map (·.2)
noncomputable def d6(kvs:List (κ×V))(k:κ)(v:V):List (κ×V):=
 if (kvs.any fun kv=>decide (kv.1=k))=true then kvs.map (fun kv=>if kv.1=k then (kv.1,v) else kv) else kvs++[(k,v)]
def Bb{p:κ×V}{r:List (κ×V)}{k:κ}(e:p.1=k):fg (p::r) k=some p.2:=by simp[fg,List.find?_cons,e]
def AM{p:κ×V}{r:List (κ×V)}{k:κ}(e:¬p.1=k):fg (p::r) k=fg r k:=by simp[fg,List.find?_cons,e]
theorem iW(k:κ):∀kvs:List (κ×V),(kvs.any fun kv=>decide (kv.1=k))=(fg kvs k).isSome
 |[]=>rfl
 |p::r=>by
  rw[La]
  by_cases e:p.1=k
  ·simp only[Bb e,IU e,Bool.true_or,Option.isSome_some]
  ·rw[AM e,Iu e,Bool.false_or];exact iW k r
def d8(kvs:List (κ×V))(k:κ)(v:V):(d6 kvs k v).length<=kvs.length+1:=by
 unfold d6
 split
 ·rw[HM];omega
 ·rw[HL,Ih,Jo];omega
def RelO.Bc{o:Option V}{u:Option Value}(r:RelO o u):o.isSome=u.isSome:=by
 cases o with
 |none=>cases u with
  |none=>rfl
  |some _=>exact(show False from r).elim
 |some _=>cases u with
  |none=>exact(show False from r).elim
  |some _=>rfl
theorem RelO.getD{o:Option V}{u:Option Value}{d:V}{d':Value}(r:RelO o u)(rd:RelV d d'):RelV (o.getD d) (u.getD d'):=by
 cases o with
 |none=>cases u with
  |none=>exact rd
  |some _=>exact(show False from r).elim
 |some _=>cases u with
  |none=>exact(show False from r).elim
  |some _=>exact r
def KV.val{kvs:List (κ×V)}{vs:List (κ×Value)}(r:KV kvs vs)(k:κ):RelO (fg kvs k) (valueAt vs k):=by
 unfold KV at r
 induction r with
 |nil=>exact True.intro
 |@cons p q ps qs h t ih=>
  obtain⟨h1,h2⟩:=h
  by_cases e:p.1=k
  ·have e':q.1=k:=h1.symm.trans e
   have b:valueAt (q::qs) k=some q.2:=by simp[valueAt,List.find?_cons,e']
   rw[Bb e,b];exact h2
  ·have e':¬q.1=k:=fun z=>e (h1.trans z)
   have b:valueAt (q::qs) k=valueAt qs k:=by simp[valueAt,List.find?_cons,e']
   rw[AM e,b];exact ih
theorem KV.any{kvs:List (κ×V)}{vs:List (κ×Value)}(r:KV kvs vs)(k:κ):(kvs.any fun kv=>decide (kv.1=k))=vs.any fun kv=>decide (kv.1=k):=by
 unfold KV at r
 induction r with
 |nil=>rfl
 |cons h t ih=>rw[La,La,ih,h.1]
def KV.repl{kvs:List (κ×V)}{vs:List (κ×Value)}(r:KV kvs vs)(k:κ){y:V}{u:Value}(ry:RelV y u) :
  KV (kvs.map fun kv=>if kv.1=k then (kv.1,y) else kv) (vs.map fun kv=>if kv.1=k then (kv.1,u) else kv):=by
 unfold KV at r ⊢
 induction r with
 |nil=>exact .nil
 |@cons p q ps qs h t ih=>
  rw[Io,Io]
  refine .cons ?_ ih
  obtain⟨h1,h2⟩:=h
  by_cases e:p.1=k
  ·rw[if_pos e,if_pos (h1.symm.trans e)];exact⟨h1,ry⟩
  ·rw[if_neg e,if_neg (fun z=>e (h1.trans z))];exact⟨h1,h2⟩
def KV.put{kvs:List (κ×V)}{vs:List (κ×Value)}(r:KV kvs vs)(k:κ){y:V}{u:Value}(ry:RelV y u):KV (d6 kvs k y) (stored vs k u):=by
 unfold d6 stored
 rw[r.any k]
 by_cases e:(vs.any fun kv=>decide (kv.1=k))=true
 ·rw[if_pos e,if_pos e];exact r.repl k ry
 ·rw[if_neg e,if_neg e];exact Paired.snoc r ⟨rfl,ry⟩
theorem KV.length{kvs:List (κ×V)}{vs:List (κ×Value)}(r:KV kvs vs):kvs.length=vs.length:=Paired.length r
end
def ig{P:Program}{w:World}{k:ba}{u:Value}(r:RelV (kV k) u):(aK P w).is k u=true:=by
 cases k with
 |inl i=>obtain⟨t,e⟩:=(show ∃t,u=Value.int i t from r);subst e;exact k5 P w i t
 |inr x=>obtain⟨t,e⟩:=(show ∃t,u=Value.str x t from r);subst e;exact k6 P w x t
theorem jW{P:Program}{w:World}:∀{ks:List ba} {us:Vv},Vals (ks.map kV) us->ItemsAre (aK P w) ks us
 |[],_,r=>by rw[Jb]at r;cases r;exact .nil
 |k::ks,_,r=>by
  rw[Io]at r
  cases r with
  |cons h t=>exact .cons (ig h) (jW t)
noncomputable abbrev KT(H:Hp):List (List ba×V)->List (List ba×Addr×Value)->Prop:=Paired fun p q=>p.1=q.1/\H q.2.1=some (.tup (p.1.map kV))/\RelV p.2 q.2.2
def KT.val{H:Hp}{kvs:List (List ba×V)}{xs:List (List ba×Addr×Value)}(r:KT H kvs xs)(k:List ba):RelO (fg kvs k) ((atKey xs k).map (·.2)):=by
 induction r with
 |nil=>exact True.intro
 |@cons p q ps qs h t ih=>
  obtain⟨h1,_,h2⟩:=h
  by_cases e:p.1=k
  ·have e':q.1=k:=h1.symm.trans e
   have b:atKey (q::qs) k=some q.2:=by simp[atKey,List.find?_cons,e']
   rw[Bb e,b];exact h2
  ·have e':¬q.1=k:=fun z=>e (h1.trans z)
   have b:atKey (q::qs) k=atKey qs k:=by simp[atKey,List.find?_cons,e']
   rw[AM e,b];exact ih
def KT.repl{H:Hp}{kvs:List (List ba×V)}{xs:List (List ba×Addr×Value)}(r:KT H kvs xs)(k:List ba){y:V}{u:Value}(ry:RelV y u) :
  KT H (kvs.map fun kv=>if kv.1=k then (kv.1,y) else kv) (xs.map (putAt k u)):=by
 induction r with
 |nil=>exact .nil
 |@cons p q ps qs h t ih=>
  rw[Io,Io]
  refine .cons ?_ ih
  obtain⟨h1,h2,h3⟩:=h
  unfold putAt
  by_cases e:p.1=k
  ·rw[if_pos e,if_pos (h1.symm.trans e)];exact⟨h1,h2,ry⟩
  ·rw[if_neg e,if_neg (fun z=>e (h1.trans z))];exact⟨h1,h2,h3⟩
def KT.put{H:Hp}{kvs:List (List ba×V)}{xs:List (List ba×Addr×Value)}(r:KT H kvs xs)(k:List ba){b:Addr}{y:V}{u:Value}(hb:H b=some (.tup (k.map kV)))(ry:RelV y u) :
  KT H (d6 kvs k y) (storedH xs k b u):=by
 have e:(kvs.any fun kv=>decide (kv.1=k))=(atKey xs k).isSome:=by
  rw[iW,(r.val k).Bc,Lr]
 unfold d6 storedH
 rw[e]
 by_cases q:(atKey xs k).isSome=true
 ·rw[if_pos q,if_pos q];exact r.repl k ry
 ·rw[if_neg q,if_neg q];exact Paired.snoc r ⟨rfl,hb,ry⟩
def KT.keeps{H H':Hp}{kvs:List (List ba×V)}{xs:List (List ba×Addr×Value)}(r:KT H kvs xs)(ht:∀b ys,H b=some (.tup ys)->H' b=some (.tup ys)):KT H' kvs xs:=
 Paired.DZ r fun _ _ z=>⟨z.1,ht _ _ z.2.1,z.2.2⟩
section
variable {P:Program} {w:World} {H:Hp} {h:Heap} {a:Addr}
def tM{u:HO}(ok:Bx P w H h)(e:Rd H a u):Am P w H h a u:=e.ok ok
def ij{kvs:List (ba×V)}(ok:Bx P w H h)(e:Rd H a (.dK kvs)):kvs.length<=sizeLine/\(a == sysModules)=false/\∃vs,KV kvs vs/\h.DictOf (aK P w) a vs:=
 show Am P w H h a (.dK kvs)from tM ok e
def tN{kvs:List (ba×V)}(ok:Bx P w H h)(e:H a=some (.dK kvs)):kvs.length<=sizeLine/\(a == sysModules)=false/\∃vs,KV kvs vs/\h.DictOf (aK P w) a vs:=ij ok (.inl e)
def cm{ks:List ba}(ok:Bx P w H h)(e:H a=some (.tup (ks.map kV))):(tupleKind (aK P w)).is h ks a:=by
 obtain⟨_,its,r,o,h1,_,h2,n,h3⟩:=(show Am P w H h a (.tup (ks.map kV))from ok a _ e)
 exact⟨o,its.toArray,n,h1,h2,h3,by simpa using jW r⟩
def iX{kvs:List (List ba×V)}(ok:Bx P w H h)(e:Rd H a (.dT kvs)):kvs.length<=sizeLine/\(a == sysModules)=false/\
  ∃xs,KT H kvs xs/\h.DictOfH (tupleKind (aK P w)) a xs:=by
 obtain⟨z,y,xs,r,o,es,ep,h1,h2,h3,h4,h5⟩:=(show Am P w H h a (.dT kvs)from tM ok e)
 refine⟨z,y,xs,r,o,es,ep,h1,h2,h3,h4,fun x hx=>?_,h5⟩
 have all:∀{l:List (List ba×V)} {m:List (List ba×Addr×Value)},KT H l m->∀x∈m,(tupleKind (aK P w)).is h x.1 x.2.1:=by
  intro l m q
  induction q with
  |nil=>intro x hx;exact nomatch hx
  |@cons p q ps qs hq t ih=>
   intro x hx
   rcases HW.mp hx with e|hx
   ·subst e
    exact cm ok (by rw[<-hq.1];exact hq.2.1)
   ·exact ih x hx
 exact all r x hx
def wM{kvs:List (List ba×V)}(ok:Bx P w H h)(e:H a=some (.dT kvs)):kvs.length<=sizeLine/\(a == sysModules)=false/\
  ∃xs,KT H kvs xs/\h.DictOfH (tupleKind (aK P w)) a xs:=iX ok (.inl e)
end
def DGet(H:Hp)(a:Addr)(y:V)(r:Option V):Prop:=
 (∃kvs k,Rd H a (.dK kvs)/\y=kV k/\r=fg kvs k)\/∃kvs k b,Rd H a (.dT kvs)/\y = .ref b/\H b=some (.tup (k.map kV))/\r=fg kvs k
def Dh(H:Hp)(a:Addr)(y v:V)(H':Hp):Prop:=
 (∃kvs k,H a=some (.dK kvs)/\y=kV k/\kvs.length < sizeLine/\H'=upd H a (.dK (d6 kvs k v))) \/
 ∃kvs k b,H a=some (.dT kvs)/\y = .ref b/\H b=some (.tup (k.map kV))/\kvs.length < sizeLine/\H'=upd H a (.dT (d6 kvs k v))
theorem DGet.k{H:Hp}{a:Addr}{kvs:List (ba×V)}{k:ba}(e:H a=some (.dK kvs)):DGet H a (kV k) (fg kvs k):=.inl ⟨kvs,k,.inl e,rfl,rfl⟩
theorem Dh.k{H:Hp}{a:Addr}{kvs:List (ba×V)}{k:ba}{v:V}(e:H a=some (.dK kvs))(hl:kvs.length < sizeLine):Dh H a (kV k) v (upd H a (.dK (d6 kvs k v))):=.inl ⟨kvs,k,e,rfl,hl,rfl⟩
section
variable {X:Cx} {pins:Va} {σ:St} {H:Hp} {s:Shared} {a:Addr} {y v:V} {u r:Value} {o:Option V} {A:Around} {E:Vq}
def Inv.big(I:Inv X pins σ H s):sysModules < s.heap.objs.size:=by
 have h:mainGlobals < s.heap.objs.size:=(I.mod.glob.keeps I.bk).lt
 exact Lx (by decide) h
def nL{Q:Vq}(hu:A.units+1 < cLine)(I:Inv X pins σ H s)(g:DGet H a y (some v))(ry:RelV y u)(h:∀w' s',Inv X pins σ H s'->RelV v w'->Q w' s') :
  wpAny (model X.prog X.w) A (getItem (.ref a) u) Q E s:=by
 rcases g with⟨kvs,k,e,ey,l⟩|⟨kvs,k,b,e,ey,eb,l⟩
 ·subst ey
  obtain⟨z,hd,vs,rel,dd⟩:=ij I.hok e
  obtain⟨w',hw,rw'⟩:=RelO.some_of (v:=v) (o:=valueAt vs k) (by rw[l];exact rel.val k)
  exact wpAny_getItem_of (ig ry) dd.mapOf hw (h w' _ (I.tok _) rw')
 ·subst ey
  cases (show u=Value.ref b from ry)
  obtain⟨z,hd,xs,rel,dd⟩:=iX I.hok e
  obtain⟨w',hw,rw'⟩:=RelO.some_of (v:=v) (o:=(atKey xs k).map (·.2)) (by rw[l];exact rel.val k)
  obtain⟨p,hp,hp2⟩:=IJ.mp hw
  refine wpAny_getItem_heap (J4 hu) (cm I.hok eb) dd hp ?_
  rw[hp2]
  exact h w' _ (I.tok _) rw'
def wN{Q:Vq}(hu:A.units+1 < cLine)(I:Inv X pins σ H s)(g:DGet H a y o)(ry:RelV y u)(h:∀s',Inv X pins σ H s'->Q (.bool o.isSome) s') :
  wpAny (model X.prog X.w) A (compareOp .In u (.ref a)) Q E s:=by
 rcases g with⟨kvs,k,e,ey,l⟩|⟨kvs,k,b,e,ey,eb,l⟩
 ·subst ey
  obtain⟨z,hd,vs,rel,dd⟩:=ij I.hok e
  refine wpAny_in_of (ig ry) hd dd.mapOf ?_
  rw[<-(rel.val k).Bc,<-l]
  exact h _ (I.tok _)
 ·subst ey
  cases (show u=Value.ref b from ry)
  obtain⟨z,hd,xs,rel,dd⟩:=iX I.hok e
  refine wpAny_in_heap (J4 hu) (cm I.hok eb) hd dd ?_
  have q:=(rel.val k).Bc
  rw[Lr]at q
  rw[<-q,<-l]
  exact h _ (I.tok _)
def mV{Q:Vq}(hu:A.units+1 < cLine)(I:Inv X pins σ H s)(g:DGet H a y o)(ry:RelV y u)(h:∀s',Inv X pins σ H s'->Q (.bool (!o.isSome)) s') :
  wpAny (model X.prog X.w) A (compareOp .NotIn u (.ref a)) Q E s:=by
 rcases g with⟨kvs,k,e,ey,l⟩|⟨kvs,k,b,e,ey,eb,l⟩
 ·subst ey
  obtain⟨z,hd,vs,rel,dd⟩:=ij I.hok e
  refine wpAny_notIn_of (ig ry) hd dd.mapOf ?_
  rw[<-(rel.val k).Bc,<-l]
  exact h _ (I.tok _)
 ·subst ey
  cases (show u=Value.ref b from ry)
  obtain⟨z,hd,xs,rel,dd⟩:=iX I.hok e
  refine wpAny_notIn_heap (J4 hu) (cm I.hok eb) hd dd ?_
  have q:=(rel.val k).Bc
  rw[Lr]at q
  rw[<-q,<-l]
  exact h _ (I.tok _)
def kz{h':Heap}{t':Nat}{ob:HO}(I:Inv X pins σ H s)(mu:v_ (H a))(hs:Heap.SameBut a s.heap h')(he:∃q,h'.get? a=some q)(new:Am X.prog X.w (upd H a ob) h' a ob) :
  Inv X pins σ (upd H a ob) { s with heap:=h',toks:=t' }:=
 I.write (x:=a) (e:=a) mu (.inl rfl) (fun b q hb z=>(hs.2 b hb).trans z) he new
def o8{P:Program}{w:World}{H':Hp}{h':Heap}{kvs:List (ba×V)}{vs:List (ba×Value)}(z:kvs.length<=sizeLine)(hd:(a == sysModules)=false)(rel:KV kvs vs)(dd:h'.DictOf (aK P w) a vs) :
  Am P w H' h' a (.dK kvs):=⟨z,hd,vs,rel,dd⟩
def nM{H':Hp}{Q:Unit->Shared->Prop}(hu:A.units+1 < cLine)(I:Inv X pins σ H s)(g:Dh H a y v H')(ry:RelV y u)(rv:RelV v r)(h:∀s',Inv X pins σ H' s'->Q () s') :
  wpAny (model X.prog X.w) A (setItem (.ref a) u r) Q E s:=by
 rcases g with⟨kvs,k,e,ey,l,eH⟩|⟨kvs,k,b,e,ey,eb,l,eH⟩
 ·subst ey eH
  obtain⟨z,hd,vs,rel,dd⟩:=tN I.hok e
  have hz:vs.length<=sizeLine:=by rw[<-rel.length];exact z
  have hl:(d6 kvs k v).length<=sizeLine:=by have:=d8 kvs k v;omega
  refine wpAny_setItem_pairs (hsz:=hz) (ig ry) dd fun h' Ee hs=>h _ ?_
  have he:∃q,h'.get? a=some q:=let ⟨q,_,_,hq,_⟩:=Ee;⟨q,hq⟩
  exact kz I (by rw[e];exact True.intro) hs he (o8 hl hd (rel.put k rv) Ee)
 ·subst ey eH
  cases (show u=Value.ref b from ry)
  obtain⟨z,hd,xs,rel,dd⟩:=wM I.hok e
  have hz:xs.length<=sizeLine:=by rw[<-Paired.length rel];exact z
  have hl:(d6 kvs k v).length<=sizeLine:=by have:=d8 kvs k v;omega
  refine wpAny_setItem_heap (hsz:=hz) (J4 hu) (cm I.hok eb) dd fun h' Ee hs=>h _ ?_
  obtain⟨q,es,ep,hq,h2,h3,h4,_,h5⟩:=Ee
  refine kz I (by rw[e];exact True.intro) hs ⟨q,hq⟩ ⟨hl,hd,_,(rel.put k eb rv).keeps fun c ys ec=>?_,q,es,ep,hq,h2,h3,h4,h5⟩
  rw[av (v9 ec e (fun z=>nomatch z))]
  exact ec
end
section
variable {X:Cx} {pins:Va} {σ:St} {H:Hp} {s:Shared} {a:Addr} {kvs:List (ba×V)} {k:ba} {u:Value} {A:Around} {E:Vq}
def wO{Q:Vq}(I:Inv X pins σ H s)(e:Rd H a (.dK kvs))(h:∀t s',Inv X pins σ H s'->Q (.int kvs.length t) s'):wpAny (model X.prog X.w) A (call (.builtin "len") [.ref a]) Q E s:=by
 obtain⟨z,hd,vs,rel,dd⟩:=ij I.hok e
 refine call_len_dict hd dd (by rw[<-rel.length];rw[sizeLine_eq]at z;omega) ?_
 rw[<-rel.length]
 exact h _ _ (I.tok _)
end
def lg{X:Cx}{pins:Va}{σ:St}{H:Hp}{s:Shared}{a:Addr}{y:V}{o:Option V}(I:Inv X pins σ H s)(g:DGet H a y o):s.TypeIs (.ref a) "dict":=by
 rcases g with⟨kvs,k,e,_,_⟩|⟨kvs,k,b,e,_,_,_⟩
 ·obtain⟨_,_,vs,_,dd⟩:=ij I.hok e
  exact dd.typeIs
 ·obtain⟨_,_,xs,_,dd⟩:=iX I.hok e
  exact dd.typeIs
def o9{P:Program}{w:World}{H:Hp}(h:Heap)(hb:sysModules < h.objs.size):Am P w H (h.push { cls:=.type "dict",data:=.dict #[] }) h.objs.size (.dK []):=
 ⟨IA _,beq_eq_false_iff_ne.mpr (JM (Iq hb)),[],.nil,Heap.DictOf.new h⟩
noncomputable def kA:List (TE×TE)->St->Hp->(List (V×V)->Hp->Prop)->Prop
 |[],_,H,Q=>Q [] H
 |(tk,tv)::r,σ,H,Q=>tk σ H fun x H1=>tv σ H1 fun y H2=>kA r σ H2 fun ps H3=>Q ((x,y)::ps) H3
noncomputable abbrev VV:List (V×V)->List (Value×Value)->Prop:=Paired fun p q=>RelV p.1 q.1/\RelV p.2 q.2
def wP(X:Cx)(pos:Pos)(keys:List (Option Expr))(values:List Expr)(BZ:List (TE×TE)):Prop:=
 ∀(pins:Va) (s:Shared) (σ:St) (H:Hp) (Q:List (V×V)->Hp->Prop),Inv X pins σ H s->kA BZ σ H Q->
  wpAny (model X.prog X.w) X.A (evalPairs (pairTrees keys values X.env pos)) (fun vs s'=>∃ps H',Inv X pins σ H' s'/\VV ps vs/\Q ps H') X.xe s
def rV{X:Cx}{pos:Pos}:wP X pos [] [] []:=fun pins s σ H Q I h=>pairTrees_nil_walk ⟨[],H,I,.nil,h⟩
def o_{X:Cx}{pos:Pos}{k v:Expr}{ks:List (Option Expr)}{vs:List Expr}{tk tv:TE}{BZ:List (TE×TE)}(hk:PE X k tk)(hv:PE X v tv)(hr:wP X pos ks vs BZ) :
  wP X pos (some k::ks) (v::vs) ((tk,tv)::BZ):=fun pins s σ H Q I h=>
 pairTrees_cons_walk (zX (hk pins s σ H _ I h) fun u s1 ⟨x,H1,I1,rx,q1⟩=>zX (hv pins s1 σ H1 _ I1 q1) fun w2 s2 ⟨y,H2,I2,ry,q2⟩=>
  zX (hr pins s2 σ H2 _ I2 q2) fun ws s3 ⟨ps,H3,I3,rel,q3⟩=>⟨(x,y)::ps,H3,I3,.cons ⟨rx,ry⟩ rel,q3⟩)
noncomputable def gF(kvs more:List (ba×V)):List (ba×V):=more.foldl (fun acc kv=>d6 acc kv.1 kv.2) kvs
def KV.merge:∀{more:List (ba×V)} {rs:List (ba×Value)} {kvs:List (ba×V)} {vs:List (ba×Value)},KV more rs->KV kvs vs->KV (gF kvs more) (merged vs rs):=by
 intro more rs kvs vs r
 unfold KV at r
 induction r generalizing kvs vs with
 |nil=>intro q;exact q
 |@cons p q ps qs h t ih=>
  intro r0
  have e:KV (d6 kvs p.1 p.2) (stored vs q.1 q.2):=by
   have:=r0.put p.1 h.2
   rw[<-h.1];exact this
  exact ih e
theorem fm:∀(more kvs:List (ba×V)),(gF kvs more).length<=kvs.length+more.length
 |[],kvs=>by show kvs.length<=kvs.length+0;omega
 |p::r,kvs=>by
  have h1:=fm r (d6 kvs p.1 p.2)
  have h2:=d8 kvs p.1 p.2
  show(gF (d6 kvs p.1 p.2) r).length<=_
  rw[Ih];omega
theorem iY{P:Program}{w:World}:∀{kvs:List (ba×V)} {ws:List (Value×Value)},VV (kvs.map fun kv=>(kV kv.1,kv.2)) ws->∃rs,Carries (aK P w) ws rs/\KV kvs rs
 |[],_,r=>by rw[Jb]at r;cases r;exact⟨[],True.intro,.nil⟩
 |p::kvs,_,r=>by
  rw[Io]at r
  cases r with
  |@cons a b as bs h t=>
   obtain⟨rs,c,q⟩:=iY (P:=P) (w:=w) t
   obtain⟨b1,b2⟩:=b
   exact⟨(p.1,b2)::rs,⟨ig h.1,rfl,c⟩,.cons ⟨rfl,h.2⟩ q⟩
def wQ(BZ:List (TE×TE)):TE:=fun σ H Q=>∀p,H p=none->kA BZ σ (upd H p (.dK [])) fun ps H2=>H2 p=some (.dK [])/\∃kvs:List (ba×V),ps=kvs.map (fun kv=>(kV kv.1,kv.2))/\kvs.length<=15/\Q (.ref p) (upd H2 p (.dK (gF [] kvs)))
def rW{X:Cx}{pos:Pos}{keys:List (Option Expr)}{values:List Expr}{BZ:List (TE×TE)}(h:wP X pos keys values BZ)(hall:keys.all (·.isSome)=true)(hl:keys.length=values.length)(h0:keys≠[])
  (Fy:keys.length<=15):PE X (.Dict keys values pos) (wQ BZ):=by
 intro pins s σ H Q I q
 have hn:=I.hok.fresh (HU s.heap.objs.size)
 have I1:=I.laid (a:=s.heap.objs.size) (o:=.dK []) (h':=s.heap.push { cls:=.type "dict",data:=.dict #[] }) (t':=s.toks) (fun _ _ q=>HN _ q) (HU _) (o9 s.heap I.big)
 refine wpAny_Dict_walk (knd:=aK X.prog X.w) hall hl h0 Fy (zX (h pins _ σ _ _ I1 (q _ hn)) fun ws s2 ⟨ps,H2,I2,rel,e,kvs,ep,lk,q2⟩=>?_)
 subst ep
 obtain⟨rs,c,rk⟩:=iY (P:=X.prog) (w:=X.w) rel
 obtain⟨z,hd,vs0,r0,dd⟩:=tN I2.hok e
 cases r0
 refine⟨rs,c,dd,fun h' Ee hs=>⟨.ref s.heap.objs.size,_,?_,rfl,q2⟩⟩
 have hz:(gF [] kvs).length<=sizeLine:=by
  have h1:=fm kvs []
  rw[Jo]at h1
  rw[sizeLine_eq];omega
 have he:∃q,h'.get? s.heap.objs.size=some q:=let ⟨q,_,_,hq,_⟩:=Ee;⟨q,hq⟩
 exact kz I2 (by rw[e];exact True.intro) hs he (o8 hz hd (rk.merge .nil) Ee)
structure M2 (X:Cx) (o:Expr) (m:Str) (apos:Pos) (e f:Expr) (cpos:Pos):Prop where
 base:attributeBase o m X.env (eval o X.env)=eval o X.env
 few:((backTo cpos (starEach [e,f] X.env)).all (fun x=>!x.1)&&(backToKw cpos (keywordEach [] X.env)).all (fun x=>x.1.isSome)
  && decide (([e,f]:List Expr).length+([]:List Keyword).length+(if ([]:List Keyword).isEmpty then 0 else 1) < 30))=true
 line:(apos.endLine == cpos.line)=true
 trees:backTo cpos (starEach [e,f] X.env)=[(false,eval e X.env),(false,eval f X.env)]
def zi(H:Hp)(a:Addr):Prop:=(∃kvs,Rd H a (.dK kvs))\/∃kvs,Rd H a (.dT kvs)
def uW{X:Cx}{pins:Va}{σ:St}{H:Hp}{s:Shared}{a:Addr}(I:Inv X pins σ H s)(d:zi H a) :
  s.TypeIs (.ref a) "dict"/\(∀b,Value.ref a = .ref b->∃ob,s.heap.get? b=some ob/\ob.dict=none)/\(a == sysModules)=false:=by
 rcases d with⟨kvs,e⟩|⟨kvs,e⟩
 ·obtain⟨_,hd,vs,_,dd⟩:=ij I.hok e
  refine⟨dd.typeIs,fun b q=>?_,hd⟩
  cases q
  obtain⟨ob,_,_,h1,h2,_⟩:=dd
  exact⟨ob,h1,h2.2.1⟩
 ·obtain⟨_,hd,xs,_,dd⟩:=iX I.hok e
  refine⟨dd.typeIs,fun b q=>?_,hd⟩
  cases q
  obtain⟨ob,_,_,h1,h2,_⟩:=dd
  exact⟨ob,h1,h2.2.1⟩
section
variable {X:Cx} {pins:Va} {σ:St} {H:Hp} {s:Shared} {a:Addr} {y d:V} {u r:Value} {o:Option V} {A:Around} {E:Vq}
def uX{Q:Vq}(hu:A.units+1 < cLine)(I:Inv X pins σ H s)(g:DGet H a y o)(ry:RelV y u)(rd:RelV d r)(h:∀w' s',Inv X pins σ H s'->RelV (o.getD d) w'->Q w' s') :
  wpAny (model X.prog X.w) A (call (.builtin "dict.get") [.ref a,u,r]) Q E s:=by
 rcases g with⟨kvs,k,e,ey,l⟩|⟨kvs,k,b,e,ey,eb,l⟩
 ·subst ey
  obtain⟨z,hd,vs,rel,dd⟩:=ij I.hok e
  refine call_meetsIn JN dd.typeIs KY (KP _ _ _) (meets_dict_get_default (aK X.prog X.w) a (ig ry) hd r) ⟨_,dd.mapOf,h _ _ (I.tok _) ?_⟩
  rw[l]
  exact(rel.val k).getD rd
 ·subst ey
  cases (show u=Value.ref b from ry)
  obtain⟨z,hd,xs,rel,dd⟩:=iX I.hok e
  refine call_meetsIn JN dd.typeIs KY (KP _ _ _) (meetsH_dict_get_default (tupleKind (aK X.prog X.w)) a b hd r) ⟨J4 hu,k,xs,cm I.hok eb,dd,h _ _ (I.tok _) ?_⟩
  rw[l]
  exact(rel.val k).getD rd
end
def uY(td ty tx:TE):TE:=fun σ H Q=>td σ H fun x H1=>∃a,x = .ref a/\zi H1 a/\ty σ H1 fun y H2=>tx σ H2 fun z H3=>∃o,DGet H3 a y o/\Q (o.getD z) H3
section
variable {X:Cx} {o e f:Expr} {apos cpos:Pos} {td ty tx:TE}
def pe(hu:X.A.units+1 < cLine)(ho:PE X o td)(he:PE X e ty)(hf:PE X f tx)(m:M2 X o "get" apos e f cpos):PE X (.Call (.Attribute o "get" apos) [e,f] [] cpos) (uY td ty tx):=by
 intro pins s σ H Q I h
 refine wpAny_Call_method m.base m.few m.line PySem.F.plainAttrs_dict JN PySem.F.type_dict_get (zX (ho pins s σ H _ I h) fun u s1 ⟨x,H1,I1,rx,a,ex,d,q1⟩=>?_)
 subst ex
 obtain rfl:u=Value.ref a:=rx
 obtain⟨t1,t2,_⟩:=uW I1 d
 refine⟨t1,t2,?_⟩
 rw[m.trees]
 refine JG rfl (Kl (Ji (zX (he pins s1 σ H1 _ I1 q1) fun iv s2 ⟨y,H2,I2,ry,q2⟩=>
  Ji (zX (hf pins s2 σ H2 _ I2 q2) fun fv s3 ⟨z,H3,I3,rz,ov,g,q3⟩=>JR ?_))))
 exact uX hu I3 g ry rz fun w' s4 I4 rw'=>⟨_,H3,I4,rw',q3⟩
end
end L2
namespace Att
open PySem PySem.W PySem.Calls PyProof.Rows
def iC{P:Params}{h:Heap}:∀(ns:Vu) (vs:Vv),WellAll P h vs (ns.map WData.int)->IntsAre vs ns:=by
 intro ns
 induction ns with
 |nil=>
  intro vs w
  rw[Jb]at w
  cases w
  exact .nil
 |cons n ns ih=>
  intro vs w
  rw[Io]at w
  cases w with
  |cons a b=>
   cases a
   exact .cons _ _ (ih _ b)
def nN{l:OpenLaw}{n:Nat}(hn:l.most=some n){P:Params}{h:Heap}{args:List WData}{vals:Vv}
  (hpre:l.row.toRowW.claim.pre args=true) (hwl:WellAll P h vals args) :
  ∃a vs ns,vals=[Value.ref a]/\args=[WData.list (ns.map WData.int)]/\h.get? a=some { cls:=.type "list",data:=.seq vs.toArray }/\IntsAre vs ns/\ns.length<=n:=by
 have hsh:WShape.hasAll [] args [.list .int]=true:=(pre_splitW hpre).1
 have hc:l.pre.holds [] { args:=args }=true:=(pre_splitW hpre).2
 obtain⟨d,r,rfl,h1,h2⟩:=hasAllW_cons hsh
 obtain rfl:=hasAllW_nil h2
 obtain⟨xs,rfl,h3⟩:=hasW_list h1
 obtain⟨ns,rfl⟩:=items_int h3
 have hlen:ns.length<=n:=by
  unfold OpenLaw.pre at hc
  have h4:(WTm.not (.lt (.lit (.int (n:Int))) (.len (.arg 0)))).holds [] { args:=[.list (ns.map .int)] }=true:=by
   have h4:=(holds_andW hc).1
   rw[hn]at h4
   exact h4
  have h5:=condW_of h4 (w_not (w_lt w_lit (w_len_list (w_arg rfl))))
  rw[HM]at h5
  refine Nat.le_of_not_lt fun q=>?_
  have q':(n:Int) < ((ns.length:Nat):Int):=by omega
  first
   |(rw[IU q']at h5;exact absurd h5 (by decide))
   |(simp at h5;omega)
 cases hwl with
 |cons w1 w2=>
  cases w2
  cases w1 with
  |list ho hall=>exact⟨_,_,ns,rfl,rfl,ho,iC ns _ hall,hlen⟩
def nO(l:OpenLaw)(args:List WData):l.row.toRowW.claim.post args (.bool true) args=true:=
 postW_of (r:=l.row.toRowW) (X:=(true == true))
  (show WShape.has [] (.bool true) .bool=true by first|rfl|decide|simp[WShape.has,WShape.arms,WShape.armsAll])
  (show(WTm.eq .res (.lit (.bool true))).value [] { args:=args,res:=some (.bool true),after:=args }=some (.bool (true == true))from w_eq_bool (w_res rfl) w_lit) rfl
def lh{l:OpenLaw}{n:Nat}{q:Program}{loose:Vs}{XP:(Vr)->Heap->Prop}{YP:World->Heap->Prop}{d:DefRec}
  (hn:l.most=some n) (hdf:d.params.defaults=[])
  (call:∀(w:World) (s₀ s₁:Shared) (mg mb:Vr) (fa:Addr) (o:Obj) (pm cd doc:Value) (a:Addr) (vs:Vv) (ns:Vu),
   Ground q loose [] XP w s₀ mg mb s₁.heap->YP w s₁.heap->
   s₁.heap.get? fa=some o->o.data = .func (docDef d.name d.params d.body d.scope pm cd doc)->s₁.heap.CodeRec cd d.name->mg d.name=some (.ref fa)->
   s₁.heap.get? a=some { cls:=.type "list",data:=.seq vs.toArray }->IntsAre vs ns->ns.length<=n->s₁.gens=#[]->
   codeAny (model l.prog w) callerA (.call (.ref fa) ⟨[.ref a],[]⟩) (fun r s'=>r = .ok (.ret (.bool true))/\OldK s₁.heap s'.heap/\s'.os=s₁.os/\AllBare s'.gens) s₁) :
  WalkO q loose XP YP l.row.toRowW d [] (fun f vs=>PySem.call f vs):=by
 intro w s₀ s₁ mg mb G Y fa o pm cd doc dV kV ho hd hcd hD hmg hg args vals as hpre hlay hrd hwl hlo
 obtain rfl:dV = .none:=Dflts.none hD hdf
 obtain rfl:kV = .none:=Dflts.noKw hD
 obtain⟨a,vs,ns,rfl,rfl,hobj,hints,hlen⟩:=nN hn hpre hwl
 refine enter_call (codeAny_mono (call w s₀ s₁ mg mb fa o pm cd doc a vs ns G Y ho (fd_plain hd) hcd hmg hobj hints hlen hg) fun r s' hq=>?_)
 obtain⟨rfl,h2,h3,h4⟩:=hq
 exact⟨.inl ⟨.bool true,.bool true,[],rfl,fun _=>rfl,.bool true,nO l _,fun _=>⟨List.Pairwise.nil,fun _ hm=>(nomatch hm)⟩⟩,h2,h3,h4⟩
end Att
namespace L2
open PySem PySem.Spec PyProof.Rows
theorem jX:∀{vs:Vv} {ns:Vu},IntsAre vs ns->Vals (ns.map V.int) vs
 |_,_,.nil=>.nil
 |_,_,.cons n t h=>.cons ⟨t,rfl⟩ (jX h)
def rX(H:Hp):Prop:=∀b,H b=none\/∃o xs,H b=some (.frz o (.lst xs))
def pg{P:Program}{w:World}{K:Vo}{mg mb:Vr}{CX:qX}{k:Nat}{fa a:Addr}{fd:FuncData}{x:Str}{sp:Sp}{s₁:Shared}{vs:Vv}{ns:Vu}
  (KX:K.In s₁.heap) (hns:s₁.heap.Ns mainGlobals mg) (hb:s₁.heap.Ns builtinsNs mb) (GW:∀x:Str,x ≠ "__name__"->mb x=bootBuiltins x) (hlim:s₁.heap.NoLimit) (hg:s₁.gens=#[])
  (ha:s₁.heap.get? a=some { cls:=.type "list",data:=.seq vs.toArray }) (hi:IntsAre vs ns) (hl:ns.length<=sizeLine) (hr:Room k callerA)
  (F:∀base:Heap,K.In base->base.Ns mainGlobals mg->jB P w K mg base CX k fa fd [x] sp) (hbind:∀(s:Shared) (u:Value),BindsTo s fd ⟨[u],[]⟩ [(x,u)])
  (Ds:∀H:Hp,rX H->SqL K H a (ns.map V.int)->sp [.ref a] H (fun v _=>v = .bl true) fun _ _ _=>False)
  (Fz:∀H e s',CX [] H s₁ (fun _ _ _=>False) e s'->False) :
  codeAny (model P w) callerA (.call (.ref fa) ⟨[.ref a],[]⟩) (fun r s'=>r = .ok (.ret (.bool true))/\OldK s₁.heap s'.heap/\s'.os=s₁.os/\AllBare s'.gens) s₁:=by
 have rv:=jX hi
 have FA:=hi.length
 -- from an abstract heap in which nothing but the script may be tracked
 have core:∀H:Hp,rX H->SqL K H a (ns.map V.int)->Bx P w H s₁.heap->(∀b,H b≠none->b=a)->(H a≠none->K.lookup a=none)->
   codeAny (model P w) callerA (.call (.ref fa) ⟨[.ref a],[]⟩) (fun r s'=>r = .ok (.ret (.bool true))/\OldK s₁.heap s'.heap/\s'.os=s₁.os/\AllBare s'.gens) s₁:=by
  intro H hO hS hok hA hK
  have CQ:∀{b:Addr} {o:Obj},s₁.heap.get? b=some o->H b=none->(kn s₁.heap H).get? b=some o:=fun e n=>oK e n
  have EH:∀{b:Addr} {o:Obj} {es:Array DictEntry} {ep:Nat},s₁.heap.get? b=some o->o.data = .dict es ep->H b=none:=fun{b o es ep} e d=>by
   cases q:H b with
   |none=>rfl
   |some u=>
    have e':b=a:=hA b (by rw[q];simp)
    subst e'
    rw[ha]at e;cases e
    have d':Data.seq vs.toArray _=Data.dict es ep:=d
    cases d'
  have E6:∀{b:Addr} {m:Vr},s₁.heap.Ns b m->(kn s₁.heap H).Ns b m:=fun{b m} ⟨o,es,ep,e,d,r⟩=>⟨o,es,ep,CQ e (EH e d),d,r⟩
  have Gj:K.In (kn s₁.heap H):=fun b o e=>CQ (KX b o e) (by
   cases q:H b with
   |none=>rfl
   |some u=>
    have e':b=a:=hA b (by rw[q];simp)
    subst e'
    rw[hK (by rw[q];simp)]at e;cases e)
  have hM:Mod K mg (kn s₁.heap H):=⟨Gj,E6 hns,⟨mb,E6 hb,GW⟩,let ⟨mc,h1,h2⟩:=hlim;⟨mc,E6 h1,h2⟩⟩
  have e0:rK P w K mg (kn s₁.heap H) callerA [] s₁ H:=⟨rfl,hM,fun b o e=>rf e,Ly (nz _ _),trivial,fun b hb=>absurd (show b∈([]:List Addr)from hb) (by simp),hok,.of_eq hg⟩
  refine codeAny_mono ((F _ Gj (E6 hns)).run callerA [] s₁ H ⟨[.ref a],[]⟩ [.ref a] [.ref a] _ _ hr e0 (hbind s₁ (.ref a)) (.cons rfl .nil) (Ds H hO hS)) fun r s' h=>?_
  cases r with
  |error e=>exact(Fz H e s' h).elim
  |ok fl=>
   cases fl with
   |next=>exact False.elim h
   |brk=>exact False.elim h
   |cont=>exact False.elim h
   |ret u=>
    obtain⟨v,H',os,bare,un,FB,r',q⟩:=h
    have q':v = .bl true:=q
    subst q'
    obtain rfl:u=Value.bool true:=r'
    refine⟨rfl,OldK.of_keep fun b o e=>?_,os,bare⟩
    cases q:H b with
    |none=>exact un.keep b o e q (by intro z;exact absurd (show b∈([]:List Addr)from z) (by simp)) (by simp)
    |some u=>
     rcases hO b with z|⟨ob,xs,z⟩
     ·rw[q]at z;cases z
     ·have z2:=un.Ce b ob _ z
      obtain⟨e1,_⟩:=hok b _ z
      obtain⟨e2,_⟩:=FB b _ z2
      rw[e]at e1;cases e1
      exact e2
 cases hk:K.lookup a with
 |some o=>
  -- the script is one of the module's own objects
  have e:=KX a o hk
  rw[ha]at e
  cases e
  refine core (fun _=>none) (fun _=>.inl rfl) (.inr ⟨_,vs.toArray,_,hk,rfl,rfl,rfl,by rw[HQ,FA];exact hl,by simpa using rv⟩) (fun b u z=>by have z':(none:Option HO)=some u:=z;cases z') (fun b z=>absurd rfl z) fun z=>absurd rfl z
 |none=>
  refine core (fun b=>if b=a then some (.frz { cls:=.type "list",data:=.seq vs.toArray } (.lst (ns.map V.int))) else none) (fun b=>?_) (.inl (.inr ⟨{ cls:=.type "list",data:=.seq vs.toArray },if_pos rfl⟩)) (fun b u z=>?_) (fun b z=>?_) fun _=>hk
  ·by_cases hb:b=a
   ·exact .inr ⟨_,_,if_pos hb⟩
   ·exact .inl (if_neg hb)
  ·by_cases hb:b=a
   ·have z':=(if_pos hb).symm.trans z
    cases z'
    subst hb
    exact⟨ha,by rw[HM];exact hl,vs,_,rv,ha⟩
   ·have z':=(if_neg hb).symm.trans z
    cases z'
  ·by_cases hb:b=a
   ·exact hb
   ·exact absurd (if_neg hb) z
def rY{l:PySem.W.OpenLaw}{n k:Nat}{q:Program}{loose:Vs}{XP:(Vr)->Heap->Prop}{YP:World->Heap->Prop}{d:DefRec}{K:Params->PySem.W.Frag}{CX:World->qX}{sp:World->Sp}{x:Str}
  (hn:l.most=some n) (hn2:n<=sizeLine) (hdf:d.params.defaults=[]) (hr:Room k callerA)
  (hY:∀(w:World) (h:Heap),YP w h->(K w.params).In h)
  (F:∀(w:World) (mg:Vr) (fa:Addr) (h:Heap),(K w.params).In h->h.Ns mainGlobals mg->mg d.name=some (.ref fa)->
   ∃fd:FuncData,(∀(s:Shared) (u:Value),BindsTo s fd ⟨[u],[]⟩ [(x,u)])/\
    ∀base:Heap,(K w.params).In base->base.Ns mainGlobals mg->jB l.prog w (K w.params) mg base (CX w) k fa fd [x] (sp w))
  (Ds:∀(w:World) (H:Hp) (a:Addr) (ns:Vu),ns.length<=n->rX H->SqL (K w.params) H a (ns.map V.int)->sp w [.ref a] H (fun v _=>v = .bl true) fun _ _ _=>False)
  (Fz:∀(w:World) (H:Hp) (s:Shared) (e:Value) (s':Shared),CX w [] H s (fun _ _ _=>False) e s'->False) :
  PySem.W.WalkO q loose XP YP l.row.toRowW d [] (fun f vs=>PySem.call f vs):=by
 refine Att.lh hn hdf fun w s₀ s₁ mg mb fa o pm cd doc a vs ns G Y ho hd hcd hmg hobj hints hlen hg=>?_
 have KX:=hY w _ Y
 obtain⟨fd,hb,hF⟩:=F w mg fa _ KX G.T.g hmg
 exact pg KX G.T.g G.T.b G.T.builtins G.T.nolimit hg hobj hints (Ik hlen hn2) hr hF hb (fun H hO hS=>Ds w H a ns hlen hO hS) fun H e s'=>Fz w H s₁ e s'
noncomputable def bv(s:Stmt):Arguments:=match s with
 | .FunctionDef _ a _ _ _ _ _ _ _ _=>a
 |_=>{ posonlyargs:=[],args:=[],vararg:=none,kwonlyargs:=[],kw_defaults:=[],kwarg:=none,defaults:=[] }
noncomputable def aV(s:Stmt):List Stmt:=match s with
 | .FunctionDef _ _ b _ _ _ _ _ _ _=>b
 |_=>[]
noncomputable def aw(s:Stmt):Scope:=match s with
 | .FunctionDef _ _ _ _ _ _ sc _ _ _=>sc
 |_=>{ kind:=.function,names:=[],isGenerator:=false,isCoroutine:=false }
noncomputable abbrev qY:qX:=fun _ _ _ _ _ _=>False
noncomputable abbrev E0:XK:=fun _ _ _=>False
def tO{X:Cx}:lY qY X E0:=fun _ _ _ _ _ _ _ h=>h.elim
structure DO (K:Vo) (x qual:Str) (st:Stmt) (f:Addr) (fd:FuncData):Prop where
 ex:∃(oc:Value) (od:Option Addr) (kV doc pm:Value) (an:Option Addr) (cdv ct:Value) (osl:Array (Option Value)),
  fd=PySem.W.fnOf x qual (bv st) (aV st) (aw st) .none kV doc pm an cdv ct/\K.lookup f=some ⟨oc,od,.func fd,osl⟩/\PySem.W.codeIn K cdv qual=true
 kp:PySem.W.keepIn K (.ref f)=true
section
variable {P:Program} {w:World} {K:Vo} {mg:Vr} {base:Heap}
def DO.ok{x qual:Str}{st:Stmt}{f:Addr}{fd:FuncData}{N ps:Vs}{k:Nat}{sp:Sp}(F:DO K x qual st f fd)(S:cv N ps (aw st))(len:∀vs H Q E,sp vs H Q E->vs.length=ps.length)
  (hbody:∀(cdv:Value) (A:Around) (outer:List Env) (s:Shared) (H:Hp) (vs:List V) (Q:VK) (E:XK),Room k (A.deeper (envOfC qual (aw st) s.heap.objs.size f cdv))->sp vs H Q E->
   ∃t,Ct (k9 qY P w K mg base N qual (aw st) f cdv A outer s H E).Ea (aV st) t/\t { nx:=fun _ H'=>Q .non H',rt:=Q } (d3 N vs) H):jB P w K mg base qY (k+1) f fd ps sp:=by
 obtain⟨oc,od,kV,doc,pm,an,cdv,ct,osl,rfl,lk,hcd⟩:=F.ex
 refine tL lk hcd S len fun A outer s H vs Q E hr Ds=>?_
 obtain⟨t,h,q⟩:=hbody cdv A outer s H vs Q E hr Ds
 exact⟨t,h.Ea,q⟩
def DO.binds{x qual:Str}{st:Stmt}{f:Addr}{fd:FuncData}{ps:Vs}(F:DO K x qual st f fd)
  (h:∀(kV doc pm:Value) (an:Option Addr) (cdv ct:Value) (us:Vv),us.length=ps.length->bindArgs (PySem.W.fnOf x qual (bv st) (aV st) (aw st) .none kV doc pm an cdv ct) ⟨us,[]⟩=pure (ps.zip us)):Binds K fd ps []:=by
 obtain⟨oc,od,kV,doc,pm,an,cdv,ct,osl,rfl,lk,hcd⟩:=F.ex
 exact .all (h kV doc pm an cdv ct)
def kB{x qual:Str}{st:Stmt}{f:Addr}{oc:Value}{od an:Option Addr}{osl:Array (Option Value)}{kV doc pm cdv ct:Value}(l:K.lookup f=some ⟨oc,od,.func (PySem.W.fnOf x qual (bv st) (aV st) (aw st) .none kV doc pm an cdv ct),osl⟩)
  (c:PySem.W.codeIn K cdv qual=true) (k:PySem.W.keepIn K (.ref f)=true):DO K x qual st f (PySem.W.fnOf x qual (bv st) (aV st) (aw st) .none kV doc pm an cdv ct):=⟨⟨oc,od,kV,doc,pm,an,cdv,ct,osl,rfl,l,c⟩,k⟩
end
def du{n:Nat}(h:n<=1000):n < sizeLine:=KL h (by decide)
section
variable {X:Cx}
def nP:fX X (.builtin "len") (fun xs H Q=>∃a kvs,xs=[V.ref a]/\H a=some (.dK kvs)/\Q (.int kvs.length) H):=by
 intro pins s σ H xs us Q I r h
 obtain⟨a,kvs,rfl,ha,q⟩:=h
 obtain⟨u,rfl,ru⟩:=fY r
 cases ru
 exact wO I (.inl ha) fun t s' I'=>⟨.int kvs.length,H,I',⟨t,rfl⟩,q⟩
end
end L2
set_option maxHeartbeats 4000000
namespace L2
open PySem PySem.Spec PyProof.Rows
def kC{prog:Program}{w:World}{A:Around}{R:Result->Shared->Prop}{s:Shared}{elt target iter:Expr}{ifs:List Expr}{scope:Scope}{pos:Pos}{it acc:Value}{env:Env}(I:Nat->Shared->Prop)
  (turn:∀n s,I n s->wpAny (model prog w) A (pyNext it) (fun r s₁=>match r with
   |none=>R (.ok .next) s₁
   |some v=>wpAny (model prog w) A (letOwnedTupleGo target it v) (fun _ s₁'=>wpAny (model prog w) A (assign target env v) (fun _ s₂=>
     wpAny (model prog w) A (forIn ifs true fun c r=>if r=true then do let ok <-isTrue c env (eval c env);pure (ForInStep.yield ok) else pure (ForInStep.yield r)) (fun ok s₃=>
      if ok=true then wpAny (model prog w) A (eval elt env) (fun x s₄=>
       wpAny (model prog w) A (call (.builtin "list.append") [acc,x]) (fun _ s₅=>∃m,m < n/\I m s₅) (fun _ _=>False) s₄) (fun _ _=>False) s₃
      else ∃m,m < n/\I m s₃) (fun _ _=>False) s₂) (fun _ _=>False) s₁') (fun _ _=>False) s₁) (fun _ _=>False) s)
  (n:Nat) (h:I n s) :
  codeAny (model prog w) A (.compLoop (.ListComp elt [⟨target,iter,ifs,0⟩] scope pos) 0 it acc env) R s:=by
 refine codeAny_loop rfl I (fun n s hI=>?_) n h
 show wpAny _ A ((compTurn (.ListComp elt [⟨target,iter,ifs,0⟩] scope pos) 0 it acc env).onRaise (fun x=>do noteFrame x env;theTreesLotGoes x)) _ _ s
 refine wpAny_noted ?_
 rw[compTurn_list]
 refine HK (wpAny_standAt (HK (J3 (turn n s hI) (fun r s₁ h₁=>?_) fun _ _ h'=>h'.elim)))
 cases r with
 |none=>exact HR h₁
 |some v=>
  refine HK (J3 h₁ (fun _ s₁' h₁'=>?_) fun _ _ h'=>h'.elim)
  refine HK (J3 h₁' (fun _ s₂ h₂=>HK (J3 h₂ (fun ok s₃ h₃=>?_) fun _ _ h'=>h'.elim)) fun _ _ h'=>h'.elim)
  cases ok with
  |false=>exact HR ⟨rfl,h₃⟩
  |true=>
   exact HK (HK (J3 h₃ (fun x s₄ h₄=>HK (J3 h₄ (fun _ s₅ h₅=>HR (HR ⟨rfl,h₅⟩)) fun _ _ h'=>h'.elim)) fun _ _ h'=>h'.elim))
structure Bk where
 C:Addr
 s:Shared
 H:Hp
 fp:List Addr
 pn:Va
noncomputable def b4(env:Env)(fs:Vs):List (Str×Addr):=fs.map fun x=>(x,(env.cells.lookup x).getD 0)
noncomputable abbrev Cx.Bv(X:Cx)(N:Vs)(scope:Scope)(fs:Vs)(B:Bk):Cx:=
 { X with N:=N,s₀:=B.s,H₀:=B.H,env:=compEnvC scope (b4 X.env fs) B.C X.env,outer:=X.stack,ex:=B.fp,fn:=fun _=>false,pn:=B.pn,xe:=fun _ _=>False }
noncomputable def bR(env:Env):List Str->Prop
 |[]=>True
 |x::r=>(∃c,env.cells.lookup x=some c)/\bR env r
theorem ik{env:Env}:∀{fs:Vs},bR env fs->∀{x:Str} {c:Addr},(b4 env fs).lookup x=some c->env.cells.lookup x=some c
 |[],_,x,c,h=>by cases h
 |y::r,k,x,c,h=>by
  obtain⟨⟨d,hd⟩,k⟩:=k
  have h':List.lookup x ((y,(env.cells.lookup y).getD 0)::b4 env r)=some c:=h
  rw[List.lookup_cons]at h'
  cases e:x == y with
  |true=>
   rw[e]at h'
   have e':x=y:=by simpa using e
   subst e'
   rw[hd]at h'
   rw[hd]
   exact h'
  |false=>
   rw[e]at h'
   exact ik k h'
noncomputable def kD(names:List (Str×NameKind))(cl:List (Str×Addr)):Bool:=names.all fun y=>(y.2 != .cell&&y.2 != .free) || (cl.lookup y.1).isSome
def pp{names:List (Str×NameKind)}{cl:List (Str×Addr)}{x:Str}{k:NameKind}(h:kD names cl=true)(e:names.lookup x=some k)(hk:k = .cell\/k = .free):∃c,cl.lookup x=some c:=by
 have hm:(x,k)∈names:=JE e
 have q:=K6.mp h _ hm
 have z:(cl.lookup x).isSome=true:=by
  rcases hk with rfl|rfl
  ·simpa using q
  ·simpa using q
 exact Option.isSome_iff_exists.mp z
noncomputable def AG(env:Env)(scope:Scope)(cl:List (Str×Addr)):List Str->Prop
 |[]=>True
 |x::r=>((env.scope.names.lookup x=some .cell\/env.scope.names.lookup x=some .free)/\((relabel scope env).names.lookup x=some .cell\/(relabel scope env).names.lookup x=some .free)/\cl.lookup x=env.cells.lookup x)/\AG env scope cl r
theorem AG.mem{env:Env}{scope:Scope}{cl:List (Str×Addr)}:∀{l:Vs},AG env scope cl l->∀x∈l,
  (env.scope.names.lookup x=some .cell\/env.scope.names.lookup x=some .free)/\((relabel scope env).names.lookup x=some .cell\/(relabel scope env).names.lookup x=some .free)/\cl.lookup x=env.cells.lookup x
 |[],_,x,h=>nomatch h
 |y::r,k,x,h=>by
  rcases HW.mp h with rfl|h
  ·exact k.1
  ·exact AG.mem k.2 x h
noncomputable def dv(own:Nat)(fr:List Nat)(σ:St):St:=List.replicate own none++fr.map fun j=>(σ[j]?).getD none
noncomputable abbrev gG(us:Vv):Obj:={ cls:=.type "list",data:=.seq us.toArray us.length }
def nQ(us:Vv)(u:Value):({ cls:=.type "list",data:=.seq (us.toArray.push u) (us.length+1) }:Obj)=gG (us++[u]):=by
 show({ cls:=.type "list",data:=.seq (us.toArray.push u) (us.length+1) }:Obj)={ cls:=.type "list",data:=.seq (us++[u]).toArray (us++[u]).length }
 rw[HL,HX,List.push_toArray]
section
variable {X:Cx} {pins:Va} {σ:St} {H:Hp} {s:Shared}
def Inv.EJ{D:Addr}{us:Vv}{n:Nat}{ys:List V}(I:Inv X pins σ H s)(f:dm X pins H D)(e:s.heap.get? D=some { cls:=.type "list",data:=.seq us.toArray n })(r:Vals ys us)(hz:ys.length<=sizeLine) :
  Inv X pins σ (upd H D (.lst ys)) s:=by
 obtain⟨f0,f1,f2,f3,f4,f5⟩:=f
 have nD:∀b u,H b=some u->b≠D:=fun b u q=>aM q f0
 have hok:Bx X.prog X.w (upd H D (.lst ys)) s.heap:=fun b u q=>by
  by_cases hb:b=D
  ·subst hb
   rw[ax]at q
   cases q
   exact⟨hz,us,n,r,e⟩
  ·rw[av hb]at q
   exact(I.hok b u q).stay (fun _ _ _ z=>z) (fun c z=>by rw[av (nD c _ z)];exact z) fun c xs z=>by rw[av (nD c _ z)];exact z
 exact I.step (H':=upd H D (.lst ys)) (h':=s.heap) (g':=s.gens) (t':=s.toks) (d':=s.drawn) (ch:=[D])
  (fun b hb=>by
   have z:b=D:=by simpa using hb
   subst z
   exact⟨f3,f1,f4,f5⟩)
  (fun _ _ _ _ _ q _=>q) (fun _ o _ _ _ q _=>⟨o.slots,q⟩)
  (fun b o hb _ n=>by rw[av (fun z=>hb (by simp[z]))];exact n)
  (fun _ o _ q=>⟨o,q⟩) (fun b xs q=>by rw[av (nD b _ q)];exact q) (fun b o u q=>by rw[av (nD b _ q)];exact q)
  (fun b ps q=>⟨#[],by rw[av (nD b _ q),q];simp⟩) (fun _ q=>q) hok I.bare
def uZ{N:Vs}{scope:Scope}{fs:Vs}{C:Addr}{fp:List Addr}(I:Inv X pins σ H s)(hkind:scope.kind = .function)(hC:s.heap.objs.size<=C)(hcl:bR X.env fs)
  (hhas:kD (relabel scope X.env).names (b4 X.env fs)=true) (hf:∀b∈fp,dm X pins H b) (hlt:∀b∈fp,b < s.heap.objs.size):(X.Bv N scope fs ⟨C,s,H,fp,X.pn++pins⟩).Ok where
 mod:=I.ok.mod
 kind:=hkind
 glob:=I.ok.glob
 blt:=I.ok.blt
 above:=hC
 inj:=fun x y c h1 h2=>I.ok.inj x y c (ik hcl h1) (ik hcl h2)
 has:=fun x hx=>by
  rcases hx with e|e
  ·exact pp hhas e (.inl rfl)
  ·exact pp hhas e (.inr rfl)
 Ey:=fun x c h=>by cases h
 hd:=I.ok.hd
 frames:=I.ok.frames
 stk:=.inl rfl
 Fo:=fun b hb=>⟨Iq (Ic (hlt b hb) hC),fun x c e=>(hf b hb).2.2.2.2.1 x c (ik hcl e)⟩
 bs:=I.bs
 Dy:=Ik I.ok.Dy I.sz
 CW:=fun b o e hb=>(hf b hb).2.2.2.1.elim (fun z=>I.ok.CW b o e z) fun z=>absurd (Ic (HS e) (Ik I.ok.Dy z)) (Ju _)
 Dd:=fun b hb z=>(HW.mp (I.BM b z)).elim (hf b hb).2.1 (hf b hb).2.2.1
 BW:=I.stack
 D9:=I.CO
def rZ{N:Vs}{scope:Scope}{fs:Vs}{C D:Addr}{fp:List Addr}{own:Nat}{fr:List Nat}{h₁:Heap}{m0:Vr}{t':Nat}(I:Inv X pins σ H s)
  (ok:(X.Bv N scope fs ⟨C,s,H,fp,X.pn++pins⟩).Ok) (hC:s.heap.objs.size<=C) (hD:s.heap.objs.size<=D) (hDC:D≠C) (hcl:bR X.env fs)
  (old:∀b o,s.heap.get? b=some o->h₁.get? b=some o) (hns:h₁.Ns C m0) (hacc:h₁.get? D=some (gG [])) (hlen:N.length=own+fr.length) (hN:(N.drop own).map some=fr.map fun j=>X.N[j]?)
  (hF:AG X.env scope (b4 X.env fs) (N.drop own)) :
  Inv (X.Bv N scope fs ⟨C,s,H,fp,X.pn++pins⟩) [(D,gG [])] (dv own fr σ) H { s with heap:=h₁,toks:=t' }:=by
 refine⟨ok,rfl,I.bare,Un.kept old,⟨m0,hns,fun i x v e1 e2 e3=>?_⟩,fun x c e=>?_,I.hok.fresh hC,fun x c e=>I.Bp x c (ik hcl e),fun p hp=>?_,I.hok.kept old,?_⟩
 ·have e1:N[i]?=some x:=e1
  by_cases hi:i < own
  ·unfold dv at e2
   rw[IF (by rw[IL];exact hi),JA,if_pos hi]at e2
   cases e2
  ·obtain⟨k,rfl⟩:∃k,i=own+k:=⟨i - own,by omega⟩
   have e1':(N.drop own)[k]?=some x:=by rw[Ln];exact e1
   have q:=I9 (fun l=>l[k]?) hN
   simp only[HY,e1',Option.map_some]at q
   unfold dv at e2
   rw[IM (by rw[IL];omega),IL,Nat.add_sub_cancel_left,HY]at e2
   cases hj:fr[k]? with
   |none=>rw[hj]at e2;cases e2
   |some j=>
    rw[hj]at e2 q
    simp only[Option.map_some,Ls]at e2 q
    have hσ:σ[j]?=some (some v):=by
     cases z:σ[j]? with
     |none=>rw[z]at e2;cases e2
     |some w=>rw[z]at e2;simp only[Option.getD_some]at e2;rw[e2]
    obtain⟨k1,k2,k3⟩:=hF.mem x (Ir e1')
    obtain⟨m,hn,hl⟩:=I.loc
    have vis:xO X.env.scope x:=by
     rcases k1 with z|z
     ·exact .inr (.inl z)
     ·exact .inr (.inr z)
    obtain⟨u,ru,l⟩:=hl j x v q.symm hσ vis
    rcases l with⟨hk,_⟩|⟨_,c,hc,o,ho,hd⟩
    ·have hk':X.env.scope.names.lookup x=some .local:=hk
     rcases k1 with z|z
     ·rw[z]at hk';cases hk'
     ·rw[z]at hk';cases hk'
    ·exact⟨u,ru,.inr ⟨k2,c,k3.trans hc,o,old _ _ ho,hd⟩⟩
 ·obtain⟨v,o,ho,hd⟩:=I.cell x c (ik hcl e)
  exact⟨v,o,old _ _ ho,hd⟩
 ·rcases HV.mp hp with z|z
  ·obtain⟨e,n,ne,nf,d⟩:=I.pin p z
   exact⟨old _ _ e,n,Iq (Ic (HS e) hC),fun q=>(HW.mp (I.BM _ q)).elim ne nf,d⟩
  ·have z':p=(D,gG []):=by simpa using z
   subst z'
   exact⟨hacc,I.hok.fresh hD,hDC,fun q=>(HW.mp (I.BM _ q)).elim (fun e=>absurd e (Kr (Ic I.lt hD))) (I.ED hD),fun v z=>by cases z⟩
 ·show(dv own fr σ).length=N.length
  unfold dv
  rw[HL,IL,HM,hlen]
end
def PF(X:Cx)(ifs:List Expr)(t:TT):Prop:=
 ∀(pins:Va) (s:Shared) (σ:St) (H:Hp) (Q:Bool->Hp->Prop),Inv X pins σ H s->t σ H Q->
  wpAny (model X.prog X.w) X.A (forIn ifs true fun c r=>if r=true then do let ok <-isTrue c X.env (eval c X.env);pure (ForInStep.yield ok) else pure (ForInStep.yield r)) (TP X pins σ Q) X.xe s
def yD:TT:=fun _ H Q=>Q true H
def u4{X:Cx}:PF X [] yD:=fun _ _ _ H _ I h=>wpAny_tests_nil ⟨H,I,h⟩
def u5{X:Cx}{c:Expr}{t:TT}(h:PT X c t):PF X [c] t:=fun pins s σ H Q I q=>wpAny_tests_one (h pins s σ H Q I q)
def tP(J:It)(g:TG)(tc:TT)(te:TE)(own:Nat)(σ':St)(fin:List V->Hp->Prop)(H1:Hp):Prop:=
 ∃W:Nat->Nat->List V->Hp->Prop,(∃m,W 0 m [] H1)/\∀i m ys H,W i m ys H->
  (J.stop i H/\ys.length<=sizeLine/\fin ys H) \/
  (J.go i H/\ys.length<=sizeLine/\∃Nx:List V->Hp->Prop,(∀ys' H',Nx ys' H'->∃m',m' < m/\W (i+1) m' ys' H')/\∀x H',J.E5 i H x H'->g x σ' H' fun σ2 H2=>σ2.drop own=σ'.drop own/\tc σ2 H2 fun b H3=>
   if b=true then te σ2 H3 fun y H4=>Nx (ys++[y]) H4 else Nx ys H3)
section
variable {X:Cx} {pins:Va} {σ:St} {H:Hp} {s:Shared}
variable {elt iter tg:Expr} {ifs:List Expr} {scope:Scope} {pos:Pos} {N:Vs} {own:Nat} {fr:List Nat} {fs:Vs} {g:TG} {tc:TT} {te:TE}
def iZ{J:It}{fp:List Addr}{it:Addr}{tn:Nat->Heap->Prop}{fin:List V->Hp->Prop}{E:Vq}{RR:Value->Addr->Result->Shared->Prop}
  (hc:X.calm=true) (hcell:∀y∈scope.names,y.2 ≠ .cell) (hkind:scope.kind = .function) (hcl:bR X.env fs) (hhas:kD (relabel scope X.env).names (b4 X.env fs)=true)
  (hlen:N.length=own+fr.length) (hN:(N.drop own).map some=fr.map fun j=>X.N[j]?) (hF:AG X.env scope (b4 X.env fs) (N.drop own))
  (hg:∀B,PG (X.Bv N scope fs B) tg g) (hf:∀B,PF (X.Bv N scope fs B) ifs tc) (he:∀B,PE (X.Bv N scope fs B) elt te)
  (I:Inv X pins σ H s) (T:ko X.prog X.w X.K tg J fp it tn) (st:tn 0 s.heap) (f:∀b∈fp,dm X pins H b) (W:tP J g tc te own (dv own fr σ) fin H)
  (hRR:∀D C s' ys H' m',Inv X pins σ (upd H' D (.lst ys)) s'->H' D=none->s'.heap.Ns C m'->dm X pins (upd H' D (.lst ys)) C->fin ys H'->RR (.ref D) C (.ok .next) s') :
  wpAny (model X.prog X.w) X.A (newList []) (fun acc s₃=>wpAny (model X.prog X.w) X.A (newFunctionEnv scope X.env.globals (b4 X.env fs) [] X.env.qual none .none (some X.env)) (fun cenv s₄=>
   codeAny (model X.prog X.w) X.A (.compStart (.ListComp elt [⟨tg,iter,ifs,0⟩] scope pos) 0 (.ref it) acc { cenv with scope:=relabel scope X.env }) (RR acc cenv.locals) s₄) E s₃) E s:=by
 refine Ja (wpAny_newFunctionEnv hcell (by intro y hy;simp at hy) (fun h₁ Ef DB=>?_) hkind)
 dsimp only at Ef DB ⊢
 generalize FC:s.heap.push { cls:=.type "list",dict:=none,data:=.seq ([]:Vv).toArray }=H2 at Ef DB ⊢
 have hC:H2.objs.size=s.heap.objs.size+1:=by rw[<-FC,Jx]
 have Eg:s.heap.objs.size<=H2.objs.size:=by rw[hC];exact Nat.le_succ _
 have hDC:s.heap.objs.size≠H2.objs.size:=by rw[hC];exact Iq (Nat.lt_succ_self _)
 have below:∀b,b < s.heap.objs.size->b≠H2.objs.size/\b≠s.heap.objs.size:=fun b hb=>⟨by rw[hC];exact Iq (Nat.lt_succ_of_lt hb),Iq hb⟩
 have old:∀b o,s.heap.get? b=some o->h₁.get? b=some o:=fun b o e=>DB.extBut b o (below b (HS e)).1 (HN _ (FC▸HN _ e))
 have hacc:h₁.get? s.heap.objs.size=some (gG []):=DB.extBut _ _ hDC (HN _ (FC▸Ia _ rfl))
 have hlt:∀b∈fp,b < s.heap.objs.size:=fun b hb=>by
  obtain⟨o,e,_⟩:=T.obj 0 _ st b hb
  exact HS e
 obtain⟨Wv,⟨m0,w0⟩,turn⟩:=W
 have ok:=uZ (N:=N) I hkind Eg hcl hhas f hlt
 have loop:∀s₃:Shared,s₃={ s with heap:=h₁,toks:=s.toks+([]:List (Str×Value)).length }->
   codeAny (model X.prog X.w) X.A (.compLoop (.ListComp elt [⟨tg,iter,ifs,0⟩] scope pos) 0 (.ref it) (.ref s.heap.objs.size) (compEnvC scope (b4 X.env fs) H2.objs.size X.env))
    (RR (.ref s.heap.objs.size) H2.objs.size) s₃:=by
  rintro s₃ rfl
  have I0:=rZ (own:=own) (fr:=fr) (t':=s.toks+([]:List (Str×Value)).length) I ok Eg (HU _) hDC hcl old Ef hacc hlen hN hF
  have GX:tn 0 h₁:=T.keep 0 _ _ st fun b _ o e=>old b o e
  have stat:∀{us:Vv} {H':Hp},(∀b∈fp,H' b=none)->∀b∈fp,dm (X.Bv N scope fs ⟨H2.objs.size,s,H,fp,X.pn++pins⟩) [(s.heap.objs.size,gG us)] H' b:=fun{us H'} hn b hb=>by
   obtain⟨f0,f1,f2,f3,f4,f5⟩:=f b hb
   refine⟨hn b hb,(below b (hlt b hb)).1,fun z=>(HW.mp (I.BM b z)).elim f1 f2,.inl hb,fun x c e=>f4 x c (ik hcl e),fun p hp=>?_⟩
   rcases HV.mp hp with z|z
   ·exact f5 p z
   ·have z':p=(s.heap.objs.size,gG us):=by simpa using z
    subst z'
    exact JM (below b (hlt b hb)).2
  have FD:∀p∈X.pn++pins,p.1 < s.heap.objs.size:=fun p hp=>HS (I.pin p hp).1
  refine kC (fun k s'=>∃i ys us H',Inv (X.Bv N scope fs ⟨H2.objs.size,s,H,fp,X.pn++pins⟩) [(s.heap.objs.size,gG us)] (dv own fr σ) H' s'/\Vals ys us/\tn i s'.heap/\(∀b∈fp,H' b=none)/\Wv i k ys H') ?_ m0
   ⟨0,[],[],H,I0,.nil,GX,fun b hb=>(f b hb).1,w0⟩
  rintro n s' ⟨i,ys,us,H',I',rv,st',Gk,w'⟩
  rcases turn i n ys H' w' with⟨stop,hz,FE⟩|⟨go,hz,Nx,Gm,step⟩
  ·refine zX (T.done (X.Bv N scope fs ⟨H2.objs.size,s,H,fp,X.pn++pins⟩) rfl rfl rfl hc i _ s' _ H' (fun _ _=>False) I' (stat Gk) st' stop) (fun r s1 ⟨hr,I1⟩=>?_)
   subst hr
   show RR _ _ (.ok .next) s1
   have IX:Inv X pins σ H' s1:=I.EG I1.os I1.base I1.hok I1.bare fun b hb=>by
    obtain⟨f0,f1,f2,f3,f4,f5⟩:=f b hb
    exact⟨f3,f1,f4,f5⟩
   obtain⟨eD,nD,_⟩:=I1.pin (s.heap.objs.size,gG us) (by simp)
   have IT:=IX.EJ (I.BG (H':=H') (HU _) nD) eD rv hz
   obtain⟨m',hn',_⟩:=I1.loc
   exact hRR _ _ s1 ys H' m' IT nD hn' (I.BG Eg (by rw[av (JM hDC)];exact I1.free)) FE
  ·refine zX (T.item (X.Bv N scope fs ⟨H2.objs.size,s,H,fp,X.pn++pins⟩) rfl rfl rfl hc i _ s' _ H' (fun _ _=>False) I' (stat Gk) st' go) (fun r s1 ⟨u,hr,h1⟩=>?_)
   subst hr
   show wpAny _ _ (letOwnedTupleGo tg (.ref it) u) _ _ s1
   refine zX h1 (fun _ s5 ⟨x,H5,I5,r5,y5,Dz,Ft⟩=>?_)
   have Fu:=I5.pinned (stat Ft) (T.obj _ _ Dz)
   refine zX (hg _ _ s5 _ H5 x u _ Fu r5 (step x H5 y5)) (fun _ s6 ⟨σ6,H6,I6,GY,q6⟩=>?_)
   refine zX (hf _ _ s6 σ6 H6 _ I6 q6) (fun b s7 ⟨H7,I7,q7⟩=>?_)
   -- Eh the turn's own names
   have forget:∀{H8:Hp} {s8:Shared} {pl:Va},Inv (X.Bv N scope fs ⟨H2.objs.size,s,H,fp,X.pn++pins⟩) pl σ6 H8 s8->Inv (X.Bv N scope fs ⟨H2.objs.size,s,H,fp,X.pn++pins⟩) pl (dv own fr σ) H8 s8:=fun{H8 s8 pl} I8=>by
    refine I8.weak (I0.len.trans I8.len.symm) fun j v e=>?_
    by_cases hj:j < own
    ·unfold dv at e
     rw[IF (by rw[IL];exact hj),JA,if_pos hj]at e
     cases e
    ·obtain⟨k,rfl⟩:∃k,j=own+k:=⟨j - own,by omega⟩
     rw[<-Ln]at e ⊢
     rw[GY]
     exact e
   have E7:∀{H8:Hp} {s8:Shared},Inv (X.Bv N scope fs ⟨H2.objs.size,s,H,fp,X.pn++pins⟩) ([(s.heap.objs.size,gG us)]++iS fp s5.heap) σ6 H8 s8->∀b∈fp,∀o,s5.heap.get? b=some o->s8.heap.get? b=some o/\H8 b=none:=fun I8 b hb o e=>
    let z:=I8.pin (b,o) (IB _ (IB _ (fy hb e)))
    ⟨z.1,z.2.1⟩
   cases b with
   |false=>
    show ∃m,m < n/\_
    obtain⟨m',hm,w7⟩:=Gm _ _ (show Nx ys H7 from q7)
    refine⟨m',hm,i+1,ys,us,H7,(forget I7).BH,rv,T.keep _ _ _ Dz fun b hb o e=>(E7 I7 b hb o e).1,fun b hb=>?_,w7⟩
    obtain⟨o,e,_⟩:=T.obj _ _ Dz b hb
    exact(E7 I7 b hb o e).2
   |true=>
    show wpAny _ _ (eval elt _) _ _ s7
    have GZ:te σ6 H7 fun y H4=>Nx (ys++[y]) H4:=q7
    refine zX (he _ _ s7 σ6 H7 _ I7 GZ) (fun v s8 ⟨y,H8,I8,r8,n8⟩=>?_)
    obtain⟨m',hm,w8⟩:=Gm _ _ n8
    obtain⟨eD,nD,Gn,G0,_⟩:=I8.pin (s.heap.objs.size,gG us) (IB _ (JP _ (by simp)))
    refine append_at (hsz:=by show us.toArray.size<=sizeLine;rw[HQ,<-rv.length];exact hz) eD fun h9 FF G1=>?_
    have J0:Inv (X.Bv N scope fs ⟨H2.objs.size,s,H,fp,X.pn++pins⟩) [] σ6 H8 s8:=I8.BY fun p hp=>nomatch hp
    have J1:Inv (X.Bv N scope fs ⟨H2.objs.size,s,H,fp,X.pn++pins⟩) [] σ6 H8 { s8 with heap:=h9 }:=J0.turned (t':=s8.toks) (it:=s.heap.objs.size) (fun b o hb e=>(FF.2 b hb).trans e) nD Gn (.inr (HU _))
     (fun x c e z=>by
      obtain⟨v',q⟩:=I.cell x c (ik hcl e)
      exact absurd (Ic q.lt (by rw[z];exact HU _)) (Ju _))
     (fun p hp=>by
      rw[Iw]at hp
      exact Iq (FD p hp))
    have J2:Inv (X.Bv N scope fs ⟨H2.objs.size,s,H,fp,X.pn++pins⟩) [(s.heap.objs.size,gG (us++[v]))] σ6 H8 { s8 with heap:=h9 }:=J1.BY fun p hp=>by
     have z':p=(s.heap.objs.size,gG (us++[v])):=by simpa using hp
     subst z'
     exact⟨G1.trans (I9 some (nQ us v)),nD,Gn,G0,fun v z=>by cases z⟩
    refine⟨m',hm,i+1,ys++[y],us++[v],H8,forget J2,Vals.append rv (.cons r8 .nil),T.keep _ _ _ Dz fun b hb o e=>(FF.2 b (below b (hlt b hb)).2).trans (E7 I8 b hb o e).1,fun b hb=>?_,w8⟩
    obtain⟨o,e,_⟩:=T.obj _ _ Dz b hb
    exact(E7 I8 b hb o e).2
 exact codeAny_compStart_list (loop _ rfl) (T.self _ 0 _ _ _ (T.keep 0 _ _ st fun b _ o e=>old b o e) (loop _ rfl))
def pq(wi:TI)(g:TG)(tc:TT)(te:TE)(own:Nat)(fr:List Nat):TE:=fun σ H Q=>wi σ H fun J H1=>
 tP J g tc te own (dv own fr σ) (fun ys H2=>∀D,H2 D=none->Q (.ref D) (upd H2 D (.lst ys))) H1
def r_(fs:Vs)(own:Nat)(fr:List Nat)(N:Vs){wi:TI}(hc:X.calm=true)(hclos:closureFor scope X.env=pure (b4 X.env fs))(hcell:∀y∈scope.names,y.2 ≠ .cell)(hkind:scope.kind = .function)
  (hnames:∀x∈scope.names,x.2 = .local->scope.names.lookup x.1=some .local) (hcl:bR X.env fs) (hhas:kD (relabel scope X.env).names (b4 X.env fs)=true)
  (hlen:N.length=own+fr.length) (hN:(N.drop own).map some=fr.map fun j=>X.N[j]?) (hF:AG X.env scope (b4 X.env fs) (N.drop own))
  (hi:PI X tg iter wi) (hg:∀B,PG (X.Bv N scope fs B) tg g) (hf:∀B,PF (X.Bv N scope fs B) ifs tc) (he:∀B,PE (X.Bv N scope fs B) elt te)
  (hs:∀x,foldedSetIterable iter X.env x=pure x:=by intro _;rfl):PE X (.ListComp elt [⟨tg,iter,ifs,0⟩] scope pos) (pq wi g tc te own fr):=by
 intro pins s σ H Q I h
 rw[eval_ListComp]
 refine wpAny_comprehension_free (use:=none) (g:=⟨tg,iter,ifs,0⟩) (gs:=[]) rfl hs hclos hkind hnames (zX (hi pins s σ H _ I h) fun v s1 h1=>zX h1 fun itv s2 h2=>?_)
 obtain⟨it,fp,tn,J,H2,e,I2,T,st2,f2,W⟩:=h2
 subst e
 refine iZ (RR:=fun acc C=>compPost (model X.prog X.w) X.A X.xe none (EP X pins σ Q) acc C) hc hcell hkind hcl hhas hlen hN hF hg hf he I2 T st2 f2 W ?_
 intro D C s' ys H' m' I' nD hn fC fin
 exact⟨m',hn,fun h' hs'=>⟨.ref D,_,I'.turned (t':=s'.toks) (fun b o hb e=>(hs'.2 b hb).trans e) fC.1 fC.2.1 fC.2.2.2.1 fC.2.2.2.2.1 fC.2.2.2.2.2,rfl,fin D nD⟩⟩
def sd(fs:Vs)(own:Nat)(fr:List Nat)(N:Vs){wi:TI}{i:Nat}{y:Str}{py spos:Pos}(hX:X.N.Nodup)(hix:X.N[i]?=some y)(hy:X.env.scope.names.lookup y=some .local)
  (hsw:swapsWith (.ListComp elt [⟨tg,iter,ifs,0⟩] scope pos) (some (.Name y py)) spos.line X.env=pure true)
  (hc:X.calm=true) (hclos:closureFor scope X.env=pure (b4 X.env fs)) (hcell:∀y∈scope.names,y.2 ≠ .cell) (hkind:scope.kind = .function)
  (hnames:∀x∈scope.names,x.2 = .local->scope.names.lookup x.1=some .local) (hcl:bR X.env fs) (hhas:kD (relabel scope X.env).names (b4 X.env fs)=true)
  (hlen:N.length=own+fr.length) (hN:(N.drop own).map some=fr.map fun j=>X.N[j]?) (hF:AG X.env scope (b4 X.env fs) (N.drop own))
  (hi:PI X tg iter wi) (hg:∀B,PG (X.Bv N scope fs B) tg g) (hf:∀B,PF (X.Bv N scope fs B) ifs tc) (he:∀B,PE (X.Bv N scope fs B) elt te)
  (hs:∀x,foldedSetIterable iter X.env x=pure x:=by intro _;rfl):PS X (.Assign [.Name y py] (.ListComp elt [⟨tg,iter,ifs,0⟩] scope pos) spos) (rC (pq wi g tc te own fr) (k8 i)):=by
 intro pins s σ H D I h
 rw[exec_Assign_Name_used _ _ _ _ hsw]
 refine HK (wpAny_standAt (HK ?_))
 show wpAny _ X.A (do let _ <-comprehension (.ListComp elt [⟨tg,iter,ifs,0⟩] scope pos) scope X.env _ (newList []) false (eval iter X.env) (some (assign (.Name y py) X.env))) _ _ s
 refine HK (J3 (wpAny_comprehension_free (use:=some (assign (.Name y py) X.env)) (Q:=fun _ s'=>SP X pins D .next s') (g:=⟨tg,iter,ifs,0⟩) (gs:=[]) rfl hs hclos hkind hnames
  (zX (hi pins s σ H _ I h) fun v s1 h1=>zX h1 fun itv s2 h2=>?_)) (fun _ s' hq=>HR (HR hq)) fun _ _ e=>e)
 obtain⟨it,fp,tn,J,H2,e,I2,T,st2,f2,W⟩:=h2
 subst e
 refine iZ (RR:=fun acc C=>compPost (model X.prog X.w) X.A X.xe (some (assign (.Name y py) X.env)) (fun _ s'=>SP X pins D .next s') acc C) hc hcell hkind hcl hhas hlen hN hF hg hf he I2 T st2 f2 W ?_
 intro Da C s' ys H' m' I' nD hn fC fin
 show wpAny _ X.A (assign (.Name y py) X.env (.ref Da)) _ _ s'
 refine wpAny_assign_Name (jP (v:=.ref Da) I' hX hix (.inl hy) rfl (fun s2 I3 ⟨a,sb,ha⟩=>?_) (.inr hy))
 have ca:C≠a:=by
  rcases ha with z|z
  ·rw[z];exact fC.2.1
  ·exact JM (fC.2.2.2.2.1 _ _ z)
 exact⟨m',hn.sameBut sb ca,fun h' hs'=>⟨_,_,I3.turned (t':=s2.toks) (fun b o hb e=>(hs'.2 b hb).trans e) fC.1 fC.2.1 fC.2.2.2.1 fC.2.2.2.2.1 fC.2.2.2.2.2,fin Da nD⟩⟩
end
end L2
namespace PySem
open Sem (wp)
namespace F
def nR:typeLookup (.type "list_reverseiterator") "__len__" = pure none:=by rw[Lg,Ke];kernel_rfl
def pA:typeLookup (.type "list_reverseiterator") "__length_hint__" = pure (some (.builtin "list_reverseiterator.__length_hint__")):=by rw[Lg,Ke];kernel_rfl
end F
section
variable {prog:Program} {w:World} {A:Around} {s:Shared} {R:Result->Shared->Prop}
variable {I:Addr} {fp wr:List Addr} {G:Array GenState->Array GenState->Prop} {n:Nat} {P:Nat->Value->Prop} {St:Nat->Shared->Prop}
def l6(W:WalksS prog w A.in1 I fp wr G n P St)(hT:∀i s,St i s->s.TypeIs (.ref I) "list_reverseiterator")(S:Addr)(res:Value)(c₀:Nat)(hst:St 0 s)(hSf:S ∉ fp)(hI:I∈fp)
  (hS:s.heap.get? S=some { cls:=.type "list",data:=.seq #[] c₀ })
  (hR:∀s' acc' c',Moved (S::wr) G s s'->s'.heap.get? S=some { cls:=.type "list",dict:=none,data:=.seq acc' c',slots:=#[] }->ItemsOf P acc' n->R (.ok (.ret res)) s') (hn:n<=sizeLine) :
  wpAny (model prog w) A.in1 (Builtin.List.listExtendWith (.ref S) (.ref I) res)
   (fun fin s'=>match fin with | .done f=>R (.ok f) s' | .again c'=>c'.quiet=true/\codeAny (model prog w) A c' R s') (fun e s'=>R (.error e) s') s:=by
 have hSI:S≠I:=fun e=>hSf (e▸hI)
 have h1:Builtin.List.listSameRef (.ref S) (.ref I)=false:=by simp[Builtin.List.listSameRef,hSI]
 unfold Builtin.List.listExtendWith
 refine HK (KU (hT 0 _ hst) ?_)
 rw[if_neg (by rw[h1];decide)]
 refine HK (W.self 0 _ _ _ hst ?_)
 refine HK (Jv ?_)
 unfold Builtin.List.listLengthHint
 refine HK (Lh (hT 0 _ hst) F.nR ?_)
 show wpAny _ A.in1 (specialOf (Value.ref I) (Str.ofString "__length_hint__") >>= _) _ _ _
 refine HK (Lh (hT 0 _ hst) F.pA ?_)
 (generalize hid:("list_reverseiterator.__length_hint__":String)=G2;wp_delta;rw[show splitId G2=some ("list_reverseiterator","__length_hint__")from by subst hid;decide +kernel];subst hid)
 refine HK (wpAny_isInstance (b:=true) (hT 0 _ hst) (by rw[isSubtype_type];kernel_rfl) ?_)
 refine HR ?_
 rw[if_neg (by decide)]
 exact HR ⟨Kz Jl _,codeAny_extend_loopS W hn _ hSf _ n 0 _ _ _ rfl (IA _) hst hS (ItemsOf.nil P) fun s' acc' c' hm hS' hacc=>hR s' acc' c' hm hS' hacc⟩
def jD(W:WalksS prog w A.in1 I fp wr G n P St)(hT:∀i s,St i s->s.TypeIs (.ref I) "list_reverseiterator")(S:Addr)(hst:St 0 s)(hSf:S ∉ fp)(hI:I∈fp)
  (hS:s.heap.get? S=some { cls:=.type "list",data:=.seq #[] })
  (hR:∀s' acc' c',Moved (S::wr) G s s'->s'.heap.get? S=some { cls:=.type "list",dict:=none,data:=.seq acc' c',slots:=#[] }->ItemsOf P acc' n->R (.ok (.ret .none)) s') (hn:n<=sizeLine) :
  wpAny (model prog w) A.in1 (Builtin.«list.__init__» ⟨[.ref S,.ref I],[]⟩)
   (fun fin s'=>match fin with | .done f=>R (.ok f) s' | .again c'=>c'.quiet=true/\codeAny (model prog w) A c' R s') (fun e s'=>R (.error e) s') s:=by
 show wpAny _ A.in1 (do let old <-Builtin.List.listItems (.ref S);Builtin.List.listUpdate (.ref S) (fun _=>#[]);letGo old.toList.reverse;Builtin.List.listExtendWith (.ref S) (.ref I) .none) _ _ s
 refine HK ?_
 unfold Builtin.List.listItems
 refine HK (Jg hS rfl (HR ?_))
 show wpAny _ A.in1 (updateSeq S (fun _=>#[]) >>= fun _=>letGo (#[]:Vw).toList.reverse >>= fun _=>Builtin.List.listExtendWith (.ref S) (.ref I) .none) _ _ s
 refine HK (KA hS rfl ?_)
 have E8:=Jf (Obj.mapSeq (fun _=>(#[]:Vw))) hS rfl
 have BA:∀b o,b≠S->s.heap.get? b=some o->(s.heap.update S (Obj.mapSeq (fun _=>(#[]:Vw)))).get? b=some o:=
  fun b o hb e=>(Je _ _ (JM hb)).trans e
 refine HK (wpAny_letGo ?_)
 refine l6 (hn:=hn) W hT S .none _ (W.frame 0 s _ s.toks hst (HU _) fun b hb o e=>BA b o (fun h=>hSf (h▸hb)) e) hSf hI E8 fun s' acc' c' hm hS' hacc=>?_
 exact hR s' acc' c' (Moved.trans W.gtrans ((Moved.refl W.grefl).then_heap (HU _) fun b o hb e=>BA b o (fun h=>hb (h▸Jh)) e) hm) hS' hacc
end
section
variable {prog:Program} {w:World} {A:Around} {E:Vq} {s:Shared}
def jE{I l:Addr}{items:Vw}{Q:Vq}(hh:A.handled=none)(hl:s.heap.IsList l items)(hit:s.heap.IsRevIter I l ((items.size:Int) - 1))(hne:l≠I)(hn:items.size<=sizeLine)
  (hQ:∀h' tk acc' c',(∀b o,b≠I->s.heap.get? b=some o->h'.get? b=some o)->h'.get? s.heap.objs.size=some { cls:=.type "list",dict:=none,data:=.seq acc' c',slots:=#[] }->
   acc'.toList=items.toList.reverse->Q (.ref s.heap.objs.size) { s with heap:=h',toks:=tk }) :
  wpAny (model prog w) A (call (.type "list") [.ref I]) Q E s:=by
 have W:=(Walks.listRev (prog:=prog) (w:=w) (A:=A.in1.in1) hh I l hne items).toS
 have FG:I < s.heap.objs.size:=by obtain⟨o,ho,_⟩:=hit;exact HS ho
 have FH:l < s.heap.objs.size:=by obtain⟨o,ho,_⟩:=hl;exact HS ho
 have hfp:∀b∈[I,l],b < s.heap.objs.size:=fun b hb=>by
  rcases HW.mp hb with rfl|hb
  ·exact FG
  ·rw[Ij.mp hb];exact FH
 have hSf:s.heap.objs.size ∉ [I,l]:=fun hm=>Ju _ (hfp _ hm)
 have hst:(fun i (s:Shared)=>i<=items.size/\s.heap.IsRevIter I l ((items.size:Int) - 1 - (i:Int))/\s.heap.IsList l items) 0 s:=⟨IA _,by simpa using hit,hl⟩
 refine callType_codes (Q₁:=fun obj s₁=>obj = .ref s.heap.objs.size/\s₁={ s with heap:=s.heap.push { cls:=.type "list",data:=.seq #[] } }) F.called_list (F.typeCall_list_1 _) F.entry_list_init
  (code_list_new _ ⟨rfl,rfl⟩) fun obj s₁ h₁=>?_
 obtain⟨rfl,rfl⟩:=h₁
 have hS:(s.heap.push { cls:=.type "list",data:=.seq #[] }).get? s.heap.objs.size=some { cls:=.type "list",data:=.seq #[] }:=Ia _ rfl
 refine⟨⟨_,hS,rfl⟩,F.args_list_init_2 _ _,jD (hn:=hn) W (fun i s st=>st.2.1.typeIs) _ (W.frame 0 s _ s.toks hst (HU _) fun b _ o e=>HN _ e) hSf (Jh ..) hS fun s' acc' c' hm hS' hacc=>?_⟩
 refine⟨rfl,?_⟩
 rw[hm.eq_with]
 refine hQ s'.heap s'.toks acc' c' (fun b o hb e=>hm.heap b o (fun z=>?_) (HN _ e)) hS' ?_
 ·rcases HW.mp z with z|z
  ·exact absurd (HS e) (by rw[z];exact Ju _)
  ·exact hb (Ij.mp z)
 ·obtain⟨hsz,hP⟩:=hacc
  apply List.ext_getElem?
  intro j
  by_cases hj:j < items.size
  ·have hj':j < acc'.size:=by rw[hsz];exact hj
   have q:=hP j acc'[j] (by simp[hj'])
   have e1:acc'.toList[j]?=some acc'[j]:=by simp[hj']
   rw[e1,List.getElem?_reverse (by simpa using hj)]
   simpa using q.symm
  ·rw[Jq (by simpa [hsz]using hj),Jq (by simpa using hj)]
end
end PySem
namespace L2
open PySem PySem.Spec PyProof.Rows
section
variable {X:Cx}
def pB(K:Vo)(te:TE):TE:=fun σ H Q=>te σ H fun x H1=>∃a xs,x = .ref a/\SqL K H1 a xs/\∀q,H1 q=none->Q (.ref q) (upd H1 q (.lst xs.reverse))
def l7{e:Expr}{te:TE}{p1 p2 q1 q2:Pos}(hc:X.calm=true)(he:PE X e te)(Ei:Gl X "list")(hm1:X.mg "list" = none)(DC:Gl X "reversed")(hm2:X.mg "reversed" = none)
  (hs:starEach [e] X.env=[(false,eval e X.env)]:=by rfl) (hs2:starEach [.Call (.Name "reversed" p2) [e] [] q2] X.env=[(false,eval (.Call (.Name "reversed" p2) [e] [] q2) X.env)]:=by rfl) :
  PE X (.Call (.Name "list" p1) [.Call (.Name "reversed" p2) [e] [] q2] [] q1) (pB X.K te):=by
 intro pins s σ H Q I h
 refine Jr (df I Ei hm1 (u:=.type "list") (by decide +kernel) ?_)
 refine IC ?_ hs2 rfl
 rw[hs2]
 show wpAny _ _ (spliced ((false,eval (.Call (.Name "reversed" p2) [e] [] q2) X.env)::backTo q1 [])) _ _ s
 refine Ji ?_
 refine Jr (df I DC hm2 (u:=.type "reversed") boot_reversed ?_)
 refine IC ?_ hs rfl
 rw[hs]
 show wpAny _ _ (spliced ((false,eval e X.env)::backTo q2 [])) _ _ s
 refine Ji (zX (he pins s σ H _ I h) fun u s1 ⟨x,H1,I1,r1,a,xs,ex,hx,q⟩=>?_)
 subst ex
 cases r1
 obtain⟨its,rv,p,hz⟩:=I1.list hx
 have hl:=rv.length
 have hal:a < s1.heap.objs.size:=by obtain⟨o,ho,_⟩:=p.isList;exact HS ho
 refine JR (call_reversed_list p.isList ?_)
 refine JR ?_
 refine jE (I.ok.hd hc) (p.isList.push _) ⟨_,Ia _ rfl,rfl,rfl⟩ (Iq hal) (by rw[HQ,<-hl];exact hz) fun h' tk acc c hk hS ha=>?_
 have hsz:(s1.heap.push (revObj a ((its.toArray.size:Int) - 1))).objs.size=s1.heap.objs.size+1:=Jx _ _
 have hle:s1.heap.objs.size<=(s1.heap.push (revObj a ((its.toArray.size:Int) - 1))).objs.size:=by rw[hsz];exact Nat.le_succ _
 refine⟨.ref _,_,I1.laid (a:=(s1.heap.push (revObj a ((its.toArray.size:Int) - 1))).objs.size) (o:=.lst xs.reverse) (h':=h') (t':=tk) (fun b u e=>hk b u (Iq (HS e)) (HN _ e)) hle ?_,rfl,q _ (I1.hok.fresh hle)⟩
 refine⟨by rw[List.length_reverse];exact hz,its.reverse,c,Vals.reverse rv,?_⟩
 rw[hS]
 have e:acc=its.reverse.toArray:=by
  apply Array.toList_inj.mp
  rw[ha]
 rw[e]
end
section
variable {X:Cx}
noncomputable abbrev kE(c:Nat):Str:=⟨#[c]⟩
noncomputable def yE(z:Str):It:=⟨fun i _=>i < z.cps.size,fun i H x H'=>H'=H/\∃c,z.cps[i]?=some c/\x = .str (kE c),fun i _=>z.cps.size<=i⟩
def pC{P:Program}{w:World}{K:Vo}{tg:Expr}{ty:String}(hty:ty = "str_ascii_iterator" \/ ty = "str_iterator")(it:Addr)(z:Str)(t:Tok):ko P w K tg (yE z) [it] it (fun i h=>i<=z.cps.size/\h.IsStrIter it ty z t i):=by
 have W:∀A':Around,A'.handled=none->Walks P w A' it [it] [it] z.cps.size (SignAt z) (fun i h=>h.IsStrIter it ty z t i):=fun A' hA=>by
  rcases hty with rfl|rfl
  ·exact Walks.strAscii hA it z t
  ·exact Walks.strWide hA it z t
 have nt:(["enumerate","zip","dict_itemiterator","dict_reverseitemiterator","odict_iterator","itertools.zip_longest","itertools.pairwise"].contains ty)=false:=by
  rcases hty with rfl|rfl<;>decide
 refine⟨by simp,fun i h st b hb=>?_,fun i h h' st k=>?_,?_,?_,?_⟩
 ·have e:b=it:=by simpa using hb
  subst e
  obtain⟨_,o,e,c,d⟩:=st
  exact⟨o,e,fun v q=>by rw[d]at q;cases q⟩
 ·obtain⟨hi,o,e,r⟩:=st
  exact⟨hi,o,k it (by simp) o e,r⟩
 ·intro X hP hw hK hc i pins s σ H E I hf st hg
  subst hP hw hK
  obtain⟨f0,f1,f2,f3,f4,f5⟩:=hf it (by simp)
  refine(W X.A (I.ok.hd hc)).item i s _ _ hg st.2 fun v h' tk hv st' kk=>?_
  obtain⟨c,u,hcp,rfl⟩:=hv
  have I1:Inv X pins σ H { s with heap:=h',toks:=tk }:=I.turned (fun b o hb e=>kk b o (by simpa using hb) e) f0 f1 f3 f4 f5
  obtain⟨o,e,co,d⟩:=id st'
  exact⟨_,rfl,mL (s:={ s with heap:=h',toks:=tk }) e co d nt ⟨.str (kE c),H,I1,⟨u,rfl⟩,⟨rfl,c,hcp,rfl⟩,⟨hg,st'⟩,fun b hb=>(hf b hb).1⟩⟩
 ·intro X hP hw hK hc i pins s σ H E I hf st hg
  subst hP hw hK
  obtain⟨f0,f1,f2,f3,f4,f5⟩:=hf it (by simp)
  have e:i=z.cps.size:=Nat.le_antisymm st.1 hg
  subst e
  exact(W X.A (I.ok.hd hc)).done s _ _ st.2 fun h' tk kk=>⟨rfl,I.turned (fun b o hb e=>kk b o (by simpa using hb) e) f0 f1 f3 f4 f5⟩
 ·intro A i s Q E st h
  rcases hty with rfl|rfl
  ·exact wpAny_pyIter_striter_ascii st.2 h
  ·exact wpAny_pyIter_striter_wide st.2 h
def se{ys:Vs}:∀{us:Vv},Vals (ys.map V.str) us->StrsAre us ys:=by
 induction ys with
 |nil=>intro us r;rw[Jb]at r;cases r;exact .nil
 |cons n ns ih=>
  intro us r
  rw[Io]at r
  cases r with
  |cons r1 r2=>
   obtain⟨t,e⟩:=r1
   subst e
   exact .cons n t (ih r2)
noncomputable def wR(K:Vo):V->List V->Hp->VK->Prop:=fun x vs H Q=>∃sep p ys,x = .str sep/\vs=[.ref p]/\SqL K H p (ys.map V.str)/\(ys.map (·.length)).sum+ys.length * sep.length<=1000000/\Q (.str (Txt.join sep ys)) H
def sf:uO X "str.join" (wR X.K):=by
 intro pins s σ H x vs v us Q I rx rv h
 obtain⟨sep,p,ys,rfl,rfl,hp,hz,q⟩:=h
 obtain⟨t,rfl⟩:=rx
 obtain⟨u,rfl,ru⟩:=fY rv
 cases ru
 obtain⟨its,r,pl,_⟩:=I.list hp
 exact join_list pl.isList (by simpa using se r) (by omega) fun t' k=>⟨.str _,H,I.tok k,⟨t',rfl⟩,q⟩
def nS(hc:X.calm=true):fX X (.builtin "all") (fun xs H Q=>∃(p:Addr) (bs:List Bool),xs=[.ref p]/\SqL X.K H p (bs.map V.bl)/\Q (.bl (bs.all id)) H):=by
 intro pins s σ H xs us Q I r h
 obtain⟨p,bs,rfl,hp,q⟩:=h
 obtain⟨u,rfl,rx⟩:=fY r
 cases rx
 obtain⟨its,rv,pl,hz⟩:=I.list hp
 have hl:=rv.length
 rw[HM]at hl
 have hlt:p < s.heap.objs.size:=by obtain⟨o,ho,_⟩:=pl.isList;exact HS ho
 refine call_all_walk (JU pl.isList ?_)
 have up:∀b o,s.heap.get? b=some o->(s.heap.push { cls:=.type "list_iterator",data:=.fields #[.ref p,.int 0 0] }).get? b=some o:=fun b o e=>HN _ e
 refine⟨s.heap.objs.size,_,_,_,_,_,fun i=>(bs[i]?).getD true,rfl,Walks.list (A:=X.A.in1) (I.ok.hd hc) s.heap.objs.size p (Iq hlt) its.toArray,⟨⟨_,Ia _ rfl,rfl,rfl⟩,pl.isList.push _⟩,?_,fun h' tk hk=>?_⟩
 ·intro i v s' Q' E' hv hq
  have hi:i < its.length:=by
   by_cases z:i < its.length
   ·exact z
   ·rw[J5 (by simpa using z)]at hv;cases hv
  obtain⟨u',e1,r1⟩:=rv.get (i:=i) (x:=.bl bs[i]) (by rw[HY,Ig (by omega)];rfl)
  have e2:v=u':=by
   have z:its[i]?=some v:=by simpa using hv
   rw[z]at e1;exact IY e1
  subst e2
  cases (show v=Value.bool bs[i] from r1)
  refine JQ ?_
  have hq':Q' ((bs[i]?).getD true) s':=hq
  rw[Ig (show i < bs.length by omega)]at hq'
  exact hq'
 ·have e:(List.range its.toArray.size).all (fun i=>(bs[i]?).getD true)=bs.all id:=by
   rw[HQ,<-hl,J9,K6,K6]
   constructor
   ·intro h1 x hx
    obtain⟨j,hj,e⟩:=List.getElem_of_mem hx
    have q1:=h1 j (Kh.mpr hj)
    rw[Ig hj]at q1
    rw[<-e];exact q1
   ·intro h1 j hj
    have hj':=Kh.mp hj
    rw[Ig hj']
    exact h1 _ (Ks hj')
  rw[e]
  exact⟨.bl _,H,(I.kept (t':=tk) (h':=h') fun b o eo=>hk b o (by
   intro hm
   have hb:b=s.heap.objs.size:=by simpa using hm
   exact absurd (HS eo) (by rw[hb];exact Ju _)) (up b o eo)),rfl,q⟩
end
section
variable {X:Cx}
noncomputable def yF:V->Option Int->Option Int->Hp->VK->Prop:=fun x lo hi H Q=>∃z,x = .str z/\z.length<=sizeLine/\Q (.str (Txt.slice z lo hi)) H
def u6:vW X yF:=by
 intro pins s σ H x v vl vu lo hi sl Q I rx hs pl pu h
 obtain⟨z,rfl,hz,q⟩:=h
 obtain⟨t,rfl⟩:=rx
 refine⟨"str",_,F.slot_str_getitem.lookup,typeIs_str _ _ _,?_⟩
 obtain⟨o,e,c,d⟩:=hs
 have fin:∀l u:Option (Int×Tok),(vl=partValue l/\lo=l.map (·.1))->(vu=partValue u/\hi=u.map (·.1))->wpAny (model X.prog X.w) X.A (getItem (.str z t) (.ref sl)) (EP X pins σ Q) X.xe s:=by
  rintro l u ⟨rfl,rfl⟩ ⟨rfl,rfl⟩
  exact wpAny_getItem_str_slice (l:=l) (u:=u) (st:=none) ⟨o,e,c,d⟩ rfl (post_val_or_str ⟨Ik (Txt.slice_le z _ _) hz,fun t' k=>⟨.str _,H,I.tok k,⟨t',rfl⟩,q⟩⟩)
 cases pl with
 |none=>
  cases pu with
  |none=>exact fin none none ⟨rfl,rfl⟩ ⟨rfl,rfl⟩
  |int j uj=>exact fin none (some (j,uj)) ⟨rfl,rfl⟩ ⟨rfl,rfl⟩
 |int i ui=>
  cases pu with
  |none=>exact fin (some (i,ui)) none ⟨rfl,rfl⟩ ⟨rfl,rfl⟩
  |int j uj=>exact fin (some (i,ui)) (some (j,uj)) ⟨rfl,rfl⟩ ⟨rfl,rfl⟩
noncomputable def u7:V->List V->Hp->VK->Prop:=fun x vs H Q=>∃a b i rest,x = .str a/\vs=[.str b]/\Builtin.Str.occurrences a b 0 a.length 1=i::rest/\Q (.int i) H
def pD:uO X "str.index" u7:=by
 intro pins s σ H x vs v us Q I rx rv h
 obtain⟨a,b,i,rest,rfl,rfl,ho,q⟩:=h
 obtain⟨t,rfl⟩:=rx
 obtain⟨w,rfl,u,rfl⟩:=fY rv
 exact call_gives F.slot_str_index (typeIs_str _ _ _) F.entry_str_index (F.args_str_index_2 _ _) (gives_str_index a b t u i rest ho) ⟨.int i,H,I.tok _,⟨_,rfl⟩,q⟩
def u8(K:Vo)(i j k:Nat)(te:TE):TS:=fun D σ H=>te σ H fun x H1=>∃p v w u,x = .ref p/\SqT K H1 p [v,w,u]/\D.nx (((σ.set k (some u)).set j (some w)).set i (some v)) H1
def pE{i j k:Nat}{x y z:Str}{e:Expr}{te:TE}{px py pz pt:Pos}{kt:Nat}{pos:Pos}(hc:X.calm=true)(hN:X.N.Nodup)(hi:X.N[i]?=some x)(hj:X.N[j]?=some y)(hk:X.N[k]?=some z)
  (hx:X.env.scope.names.lookup x=some .local) (hy:X.env.scope.names.lookup y=some .local) (hz:X.env.scope.names.lookup z=some .local) (he:PE X e te)
  (hw:swappedStores [.Tuple [.Name x px,.Name y py,.Name z pz] kt pt] e X.env=pure (some [x,y,z]))
  (hs:swapsWithSole [.Tuple [.Name x px,.Name y py,.Name z pz] kt pt] e pos.line X.env=pure false) :
  PS X (.Assign [.Tuple [.Name x px,.Name y py,.Name z pz] kt pt] e pos) (u8 X.K i j k te):=by
 intro pins s σ H D I h
 refine Assign_Tuple_swapped (names:=[x,y,z]) (zX (he pins s σ H _ I h) fun r s1 ⟨xr,H1,I1,r1,p,v,w,u,ex,hp,q⟩=>?_) hs hw
 subst ex
 cases r1
 obtain⟨its,rv,tp,_⟩:=I1.tuple hp
 obtain⟨u1,u2,u3,ei,a1,a2,a3⟩:∃u1 u2 u3,its=[u1,u2,u3]/\RelV v u1/\RelV w u2/\RelV u u3:=by
  cases rv with
  |cons a1 rv=>
   cases rv with
   |cons a2 rv=>
    cases rv with
    |cons a3 rv=>
     cases rv
     exact⟨_,_,_,rfl,a1,a2,a3⟩
 subst ei
 refine unpackItems_tuple (items:=#[u1,u2,u3]) (I.ok.hd hc) tp fun h' kp=>?_
 have I2:=I1.kept (h':=h') (t':=s1.toks) fun b o eb=>kp b o (Iq (HS eb)) eb
 refine JI (KR (cC I2 hN hk (.inl hz) a3 (fun s2 I3=>?_) (.inr hz)))
 refine JI (KR (cC I3 hN hj (.inl hy) a2 (fun s3 I4=>?_) (.inr hy)))
 exact JI (KR (cC I4 hN hi (.inl hx) a1 (fun s4 I5=>assignInOrder_nil ⟨_,H1,I5,q⟩) (.inr hx)))
end
end L2
namespace Zt
open PySem
open Sem (wp)
def Si(kd:Bool)(h:Heap)(a t:Addr)(i:Nat):Prop:=cond kd (h.IsListIter a t i) (h.IsTupleIter a t i)
def Sq(kd:Bool)(h:Heap)(a:Addr)(xs:Vw):Prop:=cond kd (h.IsList a xs) (h.IsTuple a xs)
theorem Si.at{kd:Bool}{h h':Heap}{a t:Addr}{i:Nat}(x:Si kd h a t i)(e:∀o,h.get? a=some o->h'.get? a=some o):Si kd h' a t i:=match kd,x with|true,x=>Heap.IsListIter.at x e|false,x=>Heap.IsTupleIter.at x e
theorem Sq.at{kd:Bool}{h h':Heap}{a:Addr}{xs:Vw}(x:Sq kd h a xs)(e:∀o,h.get? a=some o->h'.get? a=some o):Sq kd h' a xs:=match kd,x with|true,x=>Heap.IsList.at x e|false,x=>Heap.IsTuple.at x e
def Sq.lt{kd:Bool}{h:Heap}{a:Addr}{xs:Vw}(x:Sq kd h a xs):a < h.objs.size:=match kd,x with|true,⟨_,e,_⟩=>HS e|false,⟨_,e,_⟩=>HS e
def Si.ob{kd:Bool}{h:Heap}{a t:Addr}{i:Nat}(x:Si kd h a t i):∃o f,h.get? a=some o/\o.data = .fields f:=match kd,x with|true,⟨o,e,_,d⟩=>⟨o,_,e,d⟩|false,⟨o,e,_,d⟩=>⟨o,_,e,d⟩
def Si.extBut{kd:Bool}{h h':Heap}{a c t:Addr}{i:Nat}(x:Si kd h a t i)(e:Heap.ExtBut c h h')(n:a≠c):Si kd h' a t i:=x.at fun _ q=>e _ _ n q
def Sq.extBut{kd:Bool}{h h':Heap}{a c:Addr}{xs:Vw}(x:Sq kd h a xs)(e:Heap.ExtBut c h h')(n:a≠c):Sq kd h' a xs:=x.at fun _ q=>e _ _ n q
section
variable {prog:Program} {w:World} {A:Around} {E:Vq} {s:Shared}
def nx{j t:Addr}{i:Nat}{its:Vw}{x:Value}{Q:Vq}(hj:s.heap.IsTupleIter j t i)(ht:s.heap.IsTuple t its)(hx:its[i]?=some x)
  (k:∀g:Heap,g.IsTupleIter j t (i+1)->Heap.SameBut j s.heap g->Q x { s with heap:=g }):wpAny (model prog w) A (Builtin.SmallTypes.nextOf (.ref j)) Q E s:=by
 obtain⟨ob,eb,kb,db⟩:=id hj
 obtain⟨oc,ec,_,nc,dc⟩:=ht
 unfold Builtin.SmallTypes.nextOf
 refine HK (IS (name:=Str.ofString "__next__") hj.typeIs JJ (Js JJ hj.typeIs F.entry_tuple_iterator_next ?_ (F.args_tuple_iterator_next_1 _)))
 show wpAny _ _ (field (.ref j) 0 >>= _) _ _ s;refine HK (IE eb db (x:=.ref t) rfl ?_)
 show wpAny _ _ (if (Value.ref t == Value.none)=true then _ else _) _ _ s;rw[if_neg (show ¬((Value.ref t == Value.none)=true)from Ip)]
 show wpAny _ _ (field (.ref j) 1 >>= _) _ _ s;refine HK (IE eb db (x:=.int i 0) rfl ?_)
 show wpAny _ _ (seqItems? (.ref t) >>= _) _ _ s;refine HK (Jg ec dc ?_)
 simp only[Int.toNat_natCast,hx];refine HK (wpAny_setField eb db (by simp) (HR ⟨x,rfl,HR (k _ ?_ (Heap.SameBut.update ..))⟩))
 exact⟨_,Jf _ eb (Obj.isFreed_of_fields (Obj.data_mapFields db _)),(Obj.cls_mapFields ..).trans kb,by rw[Obj.data_mapFields db];simp[rawInt]⟩
def zj{j t:Addr}{i:Nat}{its:Vw}{Q:Vq}(hh:A.handled=none)(hj:s.heap.IsTupleIter j t i)(ht:s.heap.IsTuple t its)(hx:its[i]?=none)
  (k:∀(g:Heap) (e:Addr),Heap.ExtBut j s.heap g->(∃o,g.get? e=some o/\o.cls = .type "StopIteration")->E (.ref e) { s with heap:=g }):wpAny (model prog w) A (Builtin.SmallTypes.nextOf (.ref j)) Q E s:=by
 obtain⟨ob,eb,kb,db⟩:=id hj
 obtain⟨oc,ec,_,nc,dc⟩:=ht
 unfold Builtin.SmallTypes.nextOf
 refine HK (IS (name:=Str.ofString "__next__") hj.typeIs JJ (Js JJ hj.typeIs F.entry_tuple_iterator_next ?_ (F.args_tuple_iterator_next_1 _)))
 show wpAny _ _ (field (.ref j) 0 >>= _) _ _ s;refine HK (IE eb db (x:=.ref t) rfl ?_)
 show wpAny _ _ (if (Value.ref t == Value.none)=true then _ else _) _ _ s;rw[if_neg (show ¬((Value.ref t == Value.none)=true)from Ip)]
 show wpAny _ _ (field (.ref j) 1 >>= _) _ _ s;refine HK (IE eb db (x:=.int i 0) rfl ?_)
 show wpAny _ _ (seqItems? (.ref t) >>= _) _ _ s;refine HK (Jg ec dc ?_)
 simp only[Int.toNat_natCast,hx];refine HK (KH (HK (wpAny_setField eb db (by simp) ?_)))
 show wpAny _ _ (newExc (.type "StopIteration") [] >>= _) _ _ _;refine HK ?_
 simp only[newExc,newTuple];refine HK (Ja ?_ (by size_fits))
 refine HK (m:=firstArgMember _ _) (wpAny_of_eq (a:=Value.none) (by first|rfl|(simp only[firstArgMember];rfl)) ?_);refine Ja ?_ (by size_fits)
 simp only[raiseNew];refine HK (wpAny_handled ?_)
 first|(rw[hh])|(rw[show A.in1.handled=none from hh])
 exact HK (HR (wpAny_throw (k _ _ (((Heap.SameBut.update ..).extBut.push _).push _) ⟨_,Ia _ rfl,rfl⟩)))
def yG{kd:Bool}{j t:Addr}{i:Nat}{its:Vw}{x:Value}{Q:Vq}(hj:Si kd s.heap j t i)(ht:Sq kd s.heap t its)(hx:its[i]?=some x)
  (k:∀g:Heap,Si kd g j t (i+1)->Heap.SameBut j s.heap g->Q x { s with heap:=g }):wpAny (model prog w) A (Builtin.SmallTypes.nextOf (.ref j)) Q E s:=by
 cases kd with
 |true=>exact KZ hj ht hx k
 |false=>exact nx hj ht hx k
def wS{kd:Bool}{j t:Addr}{i:Nat}{its:Vw}{Q:Vq}(hh:A.handled=none)(hj:Si kd s.heap j t i)(ht:Sq kd s.heap t its)(hx:its[i]?=none)
  (k:∀(g:Heap) (e:Addr),Heap.ExtBut j s.heap g->(∃o,g.get? e=some o/\o.cls = .type "StopIteration")->E (.ref e) { s with heap:=g }):wpAny (model prog w) A (Builtin.SmallTypes.nextOf (.ref j)) Q E s:=by
 cases kd with
 |true=>exact wpAny_nextOf_list_end hh hj ht hx k
 |false=>exact zj hh hj ht hx k
variable {ka kb:Bool} {z TI TO i1 i2 l1 l2:Addr} {k1 k2:Nat} {xs ys:Vw} {x y a b:Value}
def sg{Q:Vq}(D:ZipApart z TI TO i1 i2 l1 l2)(gz:IsZip s.heap z TI TO .none)(gI:IsPair s.heap TI (.ref i1) (.ref i2))(gO:IsPair s.heap TO a b)
  (g1:Si ka s.heap i1 l1 k1) (g2:Si kb s.heap i2 l2 k2) (t1:Sq ka s.heap l1 xs) (t2:Sq kb s.heap l2 ys) (hx:xs[k1]?=some x) (hy:ys[k2]?=some y)
  (k:∀g,IsZip g z TI TO (rawInt s.heap.objs.size)->IsPair g TO x y->Si ka g i1 l1 (k1+1)->Si kb g i2 l2 (k2+1)->IsPair g s.heap.objs.size x y->
   (∀c o,c≠z->c≠TO->c≠i1->c≠i2->s.heap.get? c=some o->g.get? c=some o)->Q (.ref s.heap.objs.size) { s with heap:=g }) :
  wpAny (model prog w) A (Builtin.«zip.__next__» ⟨[.ref z],[]⟩) (fun fin s'=>∃v,fin = .done (.ret v)/\Q v s') E s:=by
 show wpAny _ _ (field (.ref z) 2 >>= _) _ _ _;refine HK (IE gz rfl (x:=.bool false) rfl ?_)
 show wpAny _ _ (field (.ref z) 3 >>= _) _ _ _;refine HK (IE gz rfl (x:=.ref TI) rfl (HK (Jg gI rfl ?_)))
 show wpAny _ _ (Builtin.SmallTypes.ownedTupleIsFree (.ref z) >>= _) _ _ _;refine HK ?_;unfold Builtin.SmallTypes.ownedTupleIsFree
 refine HK (IE gz rfl (x:=.none) rfl (HR ?_));simp only[IV]
 refine HK (KH (HK (IE gz rfl (x:=.ref TO) rfl (HK (Jt gz (by simp) fun h₁ z1 q1=>?_)))))
 replace z1:IsZip h₁ z TI TO .ellipsis:=z1
 refine HK ?_;simp only[List.zipIdx_cons,List.zipIdx_nil,KC,List.forIn_nil]
 refine HK (HK (wpAny_onRaise ?_));show wpAny _ _ (Builtin.SmallTypes.nextOf (.ref i1) >>= _) _ _ _
 refine HK (yG (g1.extBut q1.extBut D.i1z) (t1.extBut q1.extBut D.l1z) hx fun h₂ n1 q2=>HR ?_)
 have o2:IsPair h₂ TO a b:=q2.extBut _ _ D.TOi1 (q1.extBut _ _ D.TOz gO)
 refine HK (Jg o2 rfl (HK (Lc o2 fun h₃ o3 q3=>?_)))
 replace o3:IsPair h₃ TO x b:=o3
 refine HK (wpAny_letGo (HR ?_));refine HK (HK (wpAny_onRaise ?_));show wpAny _ _ (Builtin.SmallTypes.nextOf (.ref i2) >>= _) _ _ _
 refine HK (yG (((g2.extBut q1.extBut D.i2z).extBut q2.extBut D.i12.symm).extBut q3.extBut D.TOi2.symm) (((t2.extBut q1.extBut D.l2z).extBut q2.extBut D.l2i1).extBut q3.extBut D.l2TO) hy fun h₄ n2 q4=>HR ?_)
 have o4:IsPair h₄ TO x b:=q4.extBut _ _ D.TOi2 o3
 refine HK (Jg o4 rfl (HK (Lc o4 fun h₅ o5 q5=>?_)))
 replace o5:IsPair h₅ TO x y:=o5
 refine HK (wpAny_letGo (HR (HR ?_)));refine HK (Jg o5 rfl (HK (wpAny_newTuple ?_)))
 have sz:h₅.objs.size=s.heap.objs.size:=by rw[q5.1,q4.1,q3.1,q2.1,q1.1]
 have z5:IsZip h₅ z TI TO .ellipsis:=q5.extBut _ _ D.TOz.symm (q4.extBut _ _ D.i2z.symm (q3.extBut _ _ D.TOz.symm (q2.extBut _ _ D.i1z.symm z1)))
 have kk:∀c o,c≠z->c≠TO->c≠i1->c≠i2->s.heap.get? c=some o->h₅.get? c=some o:=fun c o c1 c2 c3 c4 e=>q5.extBut _ _ c2 (q4.extBut _ _ c4 (q3.extBut _ _ c2 (q2.extBut _ _ c3 (q1.extBut _ _ c1 e))))
 have m1:Si ka h₅ i1 l1 (k1+1):=((n1.extBut q3.extBut D.TOi1.symm).extBut q4.extBut D.i12).extBut q5.extBut D.TOi1.symm
 have m2:Si kb h₅ i2 l2 (k2+1):=n2.extBut q5.extBut D.TOi2.symm
 have zl:z < h₅.objs.size:=HS z5
 show wpAny _ _ (Builtin.SmallTypes.ownedTupleHandOut (.ref z) (.ref h₅.objs.size) >>= _) _ _ _;refine HK ?_;unfold Builtin.SmallTypes.ownedTupleHandOut
 have z6:IsZip (h₅.push { cls:=.type "tuple",data:=.seq #[x,y] }) z TI TO .ellipsis:=HN _ z5
 refine HK (Jt z6 (by simp) fun h₇ z7 q7=>?_)
 replace z7:IsZip h₇ z TI TO (rawInt h₅.objs.size):=z7
 refine Jt z7 (by simp) fun h₈ z8 q8=>?_
 replace z8:IsZip h₈ z TI TO (rawInt h₅.objs.size):=z8
 have up:∀c o,c≠z->h₅.get? c=some o->h₈.get? c=some o:=fun c o c1 e=>q8.extBut _ _ c1 (q7.extBut _ _ c1 (HN _ e))
 have T8:IsPair h₈ h₅.objs.size x y:=q8.extBut _ _ (Kr zl) (q7.extBut _ _ (Kr zl) (Ia _ rfl))
 rw[sz]at z8 T8
 refine HR ⟨_,rfl,?_⟩
 show Q (.ref h₅.objs.size) _
 rw[sz]
 exact k h₈ z8 (up _ _ D.TOz o5) (m1.at fun o e=>up _ o D.i1z e) (m2.at fun o e=>up _ o D.i2z e) T8 fun c o c1 c2 c3 c4 e=>up c o c1 (kk c o c1 c2 c3 c4 e)
def u9{Q:Fin->Shared->Prop}(hh:A.handled=none)(D:ZipApart z TI TO i1 i2 l1 l2)(gz:IsZip s.heap z TI TO .none)(gI:IsPair s.heap TI (.ref i1) (.ref i2))(gO:IsPair s.heap TO a b)
  (g1:Si ka s.heap i1 l1 k1) (g2:Si kb s.heap i2 l2 k2) (t1:Sq ka s.heap l1 xs) (t2:Sq kb s.heap l2 ys) (he:xs[k1]?=none\/ys[k2]?=none)
  (k:∀(g:Heap) (e:Addr),(∀c o,c≠z->c≠TO->c≠i1->c≠i2->s.heap.get? c=some o->g.get? c=some o)->(∃o,g.get? e=some o/\o.cls = .type "StopIteration")->E (.ref e) { s with heap:=g }) :
  wpAny (model prog w) A (Builtin.«zip.__next__» ⟨[.ref z],[]⟩) Q E s:=by
 show wpAny _ _ (field (.ref z) 2 >>= _) _ _ _;refine HK (IE gz rfl (x:=.bool false) rfl ?_)
 show wpAny _ _ (field (.ref z) 3 >>= _) _ _ _;refine HK (IE gz rfl (x:=.ref TI) rfl (HK (Jg gI rfl ?_)))
 show wpAny _ _ (Builtin.SmallTypes.ownedTupleIsFree (.ref z) >>= _) _ _ _;refine HK ?_;unfold Builtin.SmallTypes.ownedTupleIsFree
 refine HK (IE gz rfl (x:=.none) rfl (HR ?_));simp only[IV]
 refine HK (KH (HK (IE gz rfl (x:=.ref TO) rfl (HK (Jt gz (by simp) fun h₁ z1 q1=>?_)))))
 replace z1:IsZip h₁ z TI TO .ellipsis:=z1
 refine HK ?_;simp only[List.zipIdx_cons,List.zipIdx_nil,KC,List.forIn_nil]
 refine HK (HK (wpAny_onRaise ?_));show wpAny _ _ (Builtin.SmallTypes.nextOf (.ref i1) >>= _) _ _ _
 cases hx:xs[k1]? with
 |none=>
  refine HK (wS hh (g1.extBut q1.extBut D.i1z) (t1.extBut q1.extBut D.l1z) hx fun h₂ e q2 ⟨oe,ge,ce⟩=>?_)
  have z2:IsZip h₂ z TI TO .ellipsis:=q2 _ _ D.i1z.symm z1
  have ez:e≠z:=fun u=>by subst u;rw[z2]at ge;cases ge;simp at ce
  exact Jt z2 (by simp) fun h₃ _ q3=>k h₃ e (fun c o c1 _ c3 _ u=>q3.extBut _ _ c1 (q2 _ _ c3 (q1.extBut _ _ c1 u))) ⟨oe,q3.extBut _ _ ez ge,ce⟩
 |some x=>
  have hy:ys[k2]?=none:=he.elim (fun q=>by rw[hx]at q;cases q) id
  refine HK (yG (g1.extBut q1.extBut D.i1z) (t1.extBut q1.extBut D.l1z) hx fun h₂ n1 q2=>HR ?_)
  have o2:IsPair h₂ TO a b:=q2.extBut _ _ D.TOi1 (q1.extBut _ _ D.TOz gO)
  refine HK (Jg o2 rfl (HK (Lc o2 fun h₃ o3 q3=>?_)))
  refine HK (wpAny_letGo (HR ?_));refine HK (HK (wpAny_onRaise ?_));show wpAny _ _ (Builtin.SmallTypes.nextOf (.ref i2) >>= _) _ _ _
  refine HK (wS hh (((g2.extBut q1.extBut D.i2z).extBut q2.extBut D.i12.symm).extBut q3.extBut D.TOi2.symm) (((t2.extBut q1.extBut D.l2z).extBut q2.extBut D.l2i1).extBut q3.extBut D.l2TO) hy fun h₄ e q4 ⟨oe,ge,ce⟩=>?_)
  have z4:IsZip h₄ z TI TO .ellipsis:=q4 _ _ D.i2z.symm (q3.extBut _ _ D.TOz.symm (q2.extBut _ _ D.i1z.symm z1))
  have ez:e≠z:=fun u=>by subst u;rw[z4]at ge;cases ge;simp at ce
  exact Jt z4 (by simp) fun h₅ _ q5=>k h₅ e (fun c o c1 c2 c3 c4 u=>q5.extBut _ _ c1 (q4 _ _ c4 (q3.extBut _ _ c2 (q2.extBut _ _ c3 (q1.extBut _ _ c1 u))))) ⟨oe,q5.extBut _ _ ez ge,ce⟩
def nU{Q:Option Value->Shared->Prop}(D:ZipApart z TI TO i1 i2 l1 l2)(gz:IsZip s.heap z TI TO .none)(gI:IsPair s.heap TI (.ref i1) (.ref i2))(gO:IsPair s.heap TO a b)
  (g1:Si ka s.heap i1 l1 k1) (g2:Si kb s.heap i2 l2 k2) (t1:Sq ka s.heap l1 xs) (t2:Sq kb s.heap l2 ys) (hx:xs[k1]?=some x) (hy:ys[k2]?=some y)
  (k:∀g,IsZip g z TI TO (rawInt s.heap.objs.size)->IsPair g TO x y->Si ka g i1 l1 (k1+1)->Si kb g i2 l2 (k2+1)->IsPair g s.heap.objs.size x y->
   (∀c o,c≠z->c≠TO->c≠i1->c≠i2->s.heap.get? c=some o->g.get? c=some o)->Q (some (.ref s.heap.objs.size)) { s with heap:=g }):wpAny (model prog w) A (pyNext (.ref z)) Q E s:=by
 have ty:s.TypeIs (.ref z) "zip":=⟨_,gz,rfl⟩
 unfold pyNext
 exact HK (wpAny_attempt (IS (name:=Str.ofString "__next__") ty JD (Js JD ty K7
  (sg D gz gI gO g1 g2 t1 t2 hx hy fun g a1 a2 a3 a4 a5 a6=>HR (k g a1 a2 a3 a4 a5 a6)) (K0 _))))
def pF{Q:Option Value->Shared->Prop}(hh:A.handled=none)(D:ZipApart z TI TO i1 i2 l1 l2)(gz:IsZip s.heap z TI TO .none)(gI:IsPair s.heap TI (.ref i1) (.ref i2))(gO:IsPair s.heap TO a b)
  (g1:Si ka s.heap i1 l1 k1) (g2:Si kb s.heap i2 l2 k2) (t1:Sq ka s.heap l1 xs) (t2:Sq kb s.heap l2 ys) (he:xs[k1]?=none\/ys[k2]?=none)
  (k:∀g:Heap,(∀c o,c≠z->c≠TO->c≠i1->c≠i2->s.heap.get? c=some o->g.get? c=some o)->Q none { s with heap:=g }):wpAny (model prog w) A (pyNext (.ref z)) Q E s:=by
 have ty:s.TypeIs (.ref z) "zip":=⟨_,gz,rfl⟩
 unfold pyNext
 refine HK (wpAny_attempt (IS (name:=Str.ofString "__next__") ty JD (Js JD ty K7 (u9 hh D gz gI gO g1 g2 t1 t2 he fun g e kk ⟨o,ho,hc⟩=>?_) (K0 _))))
 exact HK (wpAny_isInstance (T:="StopIteration") (b:=true) ⟨o,ho,hc⟩ isSubtype_stop (HR (k _ kk)))
end
noncomputable abbrev it(kd:Bool)(l:Addr):Obj:={ cls:=.type (cond kd "list_iterator" "tuple_iterator"),data:=.fields #[.ref l,.int 0 0] }
def Si.mk{kd:Bool}{h:Heap}{a l:Addr}(e:h.get? a=some (it kd l)):Si kd h a l 0:=match kd,e with|true,e=>⟨_,e,rfl,rfl⟩|false,e=>⟨_,e,rfl,rfl⟩
noncomputable abbrev H1(ka:Bool)(h:Heap)(l1:Addr):Heap:=h.push (it ka l1)
noncomputable abbrev H2(ka kb:Bool)(h:Heap)(l1 l2:Addr):Heap:=(H1 ka h l1).push (it kb l2)
noncomputable abbrev H3(ka kb:Bool)(h:Heap)(l1 l2:Addr):Heap:=(H2 ka kb h l1 l2).push { cls:=.type "tuple",data:=.seq #[.ref h.objs.size,.ref (H1 ka h l1).objs.size] }
noncomputable abbrev H4(ka kb:Bool)(h:Heap)(l1 l2:Addr):Heap:=(H3 ka kb h l1 l2).push { cls:=.type "tuple",data:=.seq #[.none,.none] }
noncomputable abbrev H5(ka kb:Bool)(h:Heap)(l1 l2:Addr):Heap:=(H4 ka kb h l1 l2).push { cls:=.type "zip",data:=.fields #[.none,.bool false,.bool false,.ref (H2 ka kb h l1 l2).objs.size,.ref (H3 ka kb h l1 l2).objs.size] }
def gH(ka kb:Bool)(l1 l2:Addr)(xs ys:Vw) :
  Meets (Builtin.«zip.__new__» ⟨[.type "zip",.ref l1,.ref l2],[]⟩) (fun _ R s=>Sq ka s.heap l1 xs/\Sq kb s.heap l2 ys/\R (.ok (.ret (.ref (H4 ka kb s.heap l1 l2).objs.size))) { s with heap:=H5 ka kb s.heap l1 l2 }):=
 .of_wp fun prog w A R s h=>by
  obtain⟨hp,g,d,tk,os⟩:=s;obtain⟨e1,e2,h⟩:=h
  have hsub:=sub_zip
  match ka,kb,e1,e2,h with
  |false,false,e1,e2,h=>
   have L1:Heap.IsTuple (Shared.heap ⟨hp,g,d,tk,os⟩) l1 xs:=e1
   have L2:Heap.IsTuple (Shared.heap ⟨hp.push { cls:=.type "tuple_iterator",data:=.fields #[.ref l1,.int 0 0] },g,d,tk,os⟩) l2 ys:=Heap.IsTuple.push e2 _
   wp_walk using Jj L1,Jj L2
   exact⟨_,rfl,h⟩
  |false,true,e1,e2,h=>
   have L1:Heap.IsTuple (Shared.heap ⟨hp,g,d,tk,os⟩) l1 xs:=e1
   have L2:Heap.IsList (Shared.heap ⟨hp.push { cls:=.type "tuple_iterator",data:=.fields #[.ref l1,.int 0 0] },g,d,tk,os⟩) l2 ys:=Heap.IsList.push e2 _
   wp_walk using Jj L1,JU L2
   exact⟨_,rfl,h⟩
  |true,false,e1,e2,h=>
   have L1:Heap.IsList (Shared.heap ⟨hp,g,d,tk,os⟩) l1 xs:=e1
   have L2:Heap.IsTuple (Shared.heap ⟨hp.push { cls:=.type "list_iterator",data:=.fields #[.ref l1,.int 0 0] },g,d,tk,os⟩) l2 ys:=Heap.IsTuple.push e2 _
   wp_walk using JU L1,Jj L2
   exact⟨_,rfl,h⟩
  |true,true,e1,e2,h=>
   have L1:Heap.IsList (Shared.heap ⟨hp,g,d,tk,os⟩) l1 xs:=e1
   have L2:Heap.IsList (Shared.heap ⟨hp.push { cls:=.type "list_iterator",data:=.fields #[.ref l1,.int 0 0] },g,d,tk,os⟩) l2 ys:=Heap.IsList.push e2 _
   wp_walk using JU L1,JU L2
   exact⟨_,rfl,h⟩
section
variable {ka kb:Bool} {prog:Program} {w:World} {A:Around} {E:Vq} {s:Shared}
def i0{l1 l2:Addr}{xs ys:Vw}{Q:Vq}(e1:Sq ka s.heap l1 xs)(e2:Sq kb s.heap l2 ys)
  (k:∀g,IsZip g (s.heap.objs.size+4) (s.heap.objs.size+2) (s.heap.objs.size+3) .none->IsPair g (s.heap.objs.size+2) (.ref s.heap.objs.size) (.ref (s.heap.objs.size+1))->
   IsPair g (s.heap.objs.size+3) .none .none->Si ka g s.heap.objs.size l1 0->Si kb g (s.heap.objs.size+1) l2 0->
   (∀c o,s.heap.get? c=some o->g.get? c=some o)->Q (.ref (s.heap.objs.size+4)) { s with heap:=g }) :
  wpAny (model prog w) A (call (.type "zip") [.ref l1,.ref l2]) Q E s:=by
 refine callType_new F.called_zip (by decide) (F.typeCall_zip_2 _ _) (F.newCall_zip_2 _ _) (fun obj=>F.args_object_init_3 obj _ _) F.entry_zip_new (gH ka kb l1 l2 xs ys) ⟨e1,e2,?_⟩
 have z1:(H1 ka s.heap l1).objs.size=s.heap.objs.size+1:=Jx ..
 have z2:(H2 ka kb s.heap l1 l2).objs.size=s.heap.objs.size+2:=by rw[Jx,z1]
 have z3:(H3 ka kb s.heap l1 l2).objs.size=s.heap.objs.size+3:=by rw[Jx,z2]
 have z4:(H4 ka kb s.heap l1 l2).objs.size=s.heap.objs.size+4:=by rw[Jx,z3]
 have g5:(H5 ka kb s.heap l1 l2).get? (H4 ka kb s.heap l1 l2).objs.size=some _:=Ia _ rfl
 have g4:(H5 ka kb s.heap l1 l2).get? (H3 ka kb s.heap l1 l2).objs.size=some _:=HN _ (Ia _ rfl)
 have g3:(H5 ka kb s.heap l1 l2).get? (H2 ka kb s.heap l1 l2).objs.size=some _:=HN _ (HN _ (Ia _ rfl))
 have g2:(H5 ka kb s.heap l1 l2).get? (H1 ka s.heap l1).objs.size=some _:=HN _ (HN _ (HN _ (Ia _ rfl)))
 have g1:(H5 ka kb s.heap l1 l2).get? s.heap.objs.size=some _:=HN _ (HN _ (HN _ (HN _ (Ia _ rfl))))
 show _/\_
 rw[z2,z3,z4]at g5
 rw[z1,z2]at g3
 rw[z3]at g4
 rw[z1]at g2
 rw[z4]
 exact⟨⟨_,g5,rfl⟩,k _ g5 g3 g4 (.mk g1) (.mk g2) fun c o e=>HN _ (HN _ (HN _ (HN _ (HN _ e))))⟩
end
end Zt
namespace L2
open PySem PySem.Spec PyProof.Rows
section
variable {X:Cx} {pins:Va} {σ:St} {H:Hp} {s:Shared} {h':Heap}
def Inv.Bw{t':Nat}{fp:List Addr}(I:Inv X pins σ H s)(k:∀b o,b ∉ fp->s.heap.get? b=some o->h'.get? b=some o)(hf:∀b∈fp,dm X pins H b):Inv X pins σ H { s with heap:=h',toks:=t' }:=by
 have EF:∀b u,H b=some u->b ∉ fp:=fun b u e z=>by rw[(hf b z).1]at e;cases e
 refine I.step (g':=s.gens) (d':=s.drawn) (ch:=fp) (fun b hb=>?_) (fun b o _ _ hc e _=>k b o hc e) (fun b o _ _ hc e _=>⟨o.slots,k b o hc e⟩) (fun _ _ _ _ n=>n)
  (fun b o hc e=>⟨o,k b o hc e⟩) (fun _ _ e=>e) (fun _ _ _ e=>e) (fun b ps e=>⟨#[],by rw[e];simp⟩) (fun m hm=>?_) (fun b u e=>?_) I.bare
 ·obtain⟨f0,f1,f2,f3,f4,f5⟩:=hf b hb
  exact⟨f3,f1,f4,f5⟩
 ·obtain⟨o,es,ep,ho,r⟩:=hm
  exact⟨o,es,ep,k _ o (fun z=>(hf _ z).2.1 rfl) ho,r⟩
 ·refine(I.hok b u e).stay (fun c v hc q=>k c v ?_ q) (fun _ q=>q) fun _ _ q=>q
  rcases hc with z|z
  ·rw[z];exact EF b u e
  ·exact EF c _ z
def Inv.B3{D:Addr}{us:Vv}{ys:List V}(I:Inv X pins σ H s)(f:dm X pins H D)(e:As s.heap D us.toArray)(r:Vals ys us)(hz:ys.length<=sizeLine) :
  Inv X pins σ (upd H D (.tup ys)) s:=by
 obtain⟨f0,f1,f2,f3,f4,f5⟩:=f
 have nD:∀b u,H b=some u->b≠D:=fun b u q=>aM q f0
 have hok:Bx X.prog X.w (upd H D (.tup ys)) s.heap:=fun b u q=>by
  by_cases hb:b=D
  ·subst hb
   rw[ax]at q
   cases q
   exact⟨hz,us,r,e⟩
  ·rw[av hb]at q
   exact(I.hok b u q).stay (fun _ _ _ z=>z) (fun c z=>by rw[av (nD c _ z)];exact z) fun c xs z=>by rw[av (nD c _ z)];exact z
 exact I.step (H':=upd H D (.tup ys)) (h':=s.heap) (g':=s.gens) (t':=s.toks) (d':=s.drawn) (ch:=[D])
  (fun b hb=>by
   have z:b=D:=by simpa using hb
   subst z
   exact⟨f3,f1,f4,f5⟩)
  (fun _ _ _ _ _ q _=>q) (fun _ o _ _ _ q _=>⟨o.slots,q⟩)
  (fun b o hb _ n=>by rw[av (fun z=>hb (by simp[z]))];exact n)
  (fun _ o _ q=>⟨o,q⟩) (fun b xs q=>by rw[av (nD b _ q)];exact q) (fun b o u q=>by rw[av (nD b _ q)];exact q)
  (fun b ps q=>⟨#[],by rw[av (nD b _ q),q];simp⟩) (fun _ q=>q) hok I.bare
end
def nV(kd:Bool)(K:Vo)(H:Hp)(a:Addr)(xs:List V):Prop:=cond kd (SqL K H a xs) (SqT K H a xs)
def Inv.CZ{X:Cx}{pins:Va}{σ:St}{H:Hp}{s:Shared}{kd:Bool}{a:Addr}{xs:List V}(I:Inv X pins σ H s)(h:nV kd X.K H a xs):∃its:List Value,Vals xs its/\Zt.Sq kd s.heap a its.toArray:=by
 cases kd with
 |true=>obtain⟨i,r,p,z⟩:=I.list h;exact⟨i,r,p.isList⟩
 |false=>obtain⟨i,r,p,z⟩:=I.tuple h;exact⟨i,r,p⟩
def Inv.Cu{X:Cx}{pins:Va}{σ:St}{H:Hp}{s:Shared}{kd:Bool}{a:Addr}{xs ys:List V}(I:Inv X pins σ H s)(h:nV kd X.K H a xs)(g:nV kd X.K H a ys):xs=ys:=by
 cases kd with
 |true=>exact I.B2 h g
 |false=>exact I.BN h g
noncomputable def yH(ka kb:Bool)(K:Vo)(a b:Addr):It:=
  ⟨fun i H=>∃xs ys x y,nV ka K H a xs/\nV kb K H b ys/\xs[i]?=some x/\ys[i]?=some y,
   fun i H v H'=>∃p x y,v = .ref p/\H p=none/\H'=upd H p (.tup [x,y])/\∀xs ys,nV ka K H a xs->nV kb K H b ys->xs[i]?=some x/\ys[i]?=some y,
   fun i H=>∃xs ys,nV ka K H a xs/\nV kb K H b ys/\(xs.length<=i\/ys.length<=i)⟩
def pG{ka kb:Bool}{P:Program}{w:World}{K:Vo}{elts:List Expr}{k0:Nat}{BO:Pos}{z TI TO i1 i2 a b:Addr}(D:ZipApart z TI TO i1 i2 a b) :
  ko P w K (.Tuple elts k0 BO) (yH ka kb K a b) [z,TI,TO,i1,i2] z (fun i h=>IsZip h z TI TO .none/\IsPair h TI (.ref i1) (.ref i2)/\(∃x y,IsPair h TO x y)/\Zt.Si ka h i1 a i/\Zt.Si kb h i2 b i) where
 mem:=by simp
 obj:=fun i h st c hc=>by
  obtain⟨gz,gI,⟨x,y,gO⟩,g1,g2⟩:=st
  obtain⟨o1,_,e1,d1⟩:=g1.ob;obtain⟨o2,_,e2,d2⟩:=g2.ob
  simp only[HW,Il,Jc]at hc
  rcases hc with rfl|rfl|rfl|rfl|rfl
  ·exact⟨_,gz,fun v q=>by cases q⟩
  ·exact⟨_,gI,fun v q=>by cases q⟩
  ·exact⟨_,gO,fun v q=>by cases q⟩
  ·exact⟨_,e1,fun v q=>by rw[d1]at q;cases q⟩
  ·exact⟨_,e2,fun v q=>by rw[d2]at q;cases q⟩
 keep:=fun i h h' st k=>by
  obtain⟨gz,gI,⟨x,y,gO⟩,g1,g2⟩:=st
  exact⟨k z (by simp) _ gz,k TI (by simp) _ gI,⟨x,y,k TO (by simp) _ gO⟩,g1.at fun o e=>k i1 (by simp) o e,g2.at fun o e=>k i2 (by simp) o e⟩
 item:=by
  intro X hP hw hK hc i pins s σ H E I hf st hg
  subst hP hw hK
  obtain⟨gz,gI,⟨ta,tb,gO⟩,g1,g2⟩:=st
  obtain⟨xs,ys,x,y,CS,E9,hx,hy⟩:=hg
  obtain⟨ia,ra,pa⟩:=I.CZ CS
  obtain⟨ib,rb,pb⟩:=I.CZ E9
  obtain⟨u,hu,ru⟩:=ra.get hx
  obtain⟨v,hv,rv⟩:=rb.get hy
  refine Zt.nU D gz gI gO g1 g2 pa pb (x:=u) (y:=v) (by simpa using hu) (by simpa using hv) fun g a1 a2 a3 a4 a5 a6=>?_
  refine⟨_,rfl,wpAny_letOwnedTupleGo_zip (s:={ s with heap:=g }) a1 fun g' z' q'=>?_⟩
  have kk:∀c o,c ∉ [z,TI,TO,i1,i2]->s.heap.get? c=some o->g'.get? c=some o:=fun c o hc e=>by
   simp only[HW,Il,Jc,not_or]at hc
   exact q'.extBut _ _ hc.1 (a6 c o hc.1 hc.2.2.1 hc.2.2.2.1 hc.2.2.2.2 e)
  have I1:Inv X pins σ H { s with heap:=g' }:=I.Bw (t':=s.toks) kk hf
  have f0:dm X pins H s.heap.objs.size:=I.BG (HU _) (I.hok.fresh (HU _))
  have eT:As g' s.heap.objs.size [u,v].toArray:=⟨_,q'.extBut _ _ (Kr (HS gz)) a5,rfl,rfl,_,rfl⟩
  have I2:=I1.B3 f0 eT (.cons ru (.cons rv .nil)) (by show 2<=sizeLine;decide)
  refine⟨.ref s.heap.objs.size,_,I2,rfl,⟨s.heap.objs.size,x,y,rfl,f0.1,rfl,fun xs' ys' h1 h2=>by rw[I.Cu h1 CS,I.Cu h2 E9];exact⟨hx,hy⟩⟩,
   ⟨z',q'.extBut _ _ D.TIz (a6 TI _ D.TIz D.TITO D.TIi1 D.TIi2 gI),⟨_,_,q'.extBut _ _ D.TOz a2⟩,a3.extBut q'.extBut D.i1z,a4.extBut q'.extBut D.i2z⟩,fun c hc=>?_⟩
  have hlt:c < s.heap.objs.size:=by
   obtain⟨_,_,e1,_⟩:=g1.ob
   obtain⟨_,_,e2,_⟩:=g2.ob
   simp only[HW,Il,Jc]at hc
   rcases hc with rfl|rfl|rfl|rfl|rfl
   ·exact HS gz
   ·exact HS gI
   ·exact HS gO
   ·exact HS e1
   ·exact HS e2
  rw[av (Iq hlt)]
  exact(hf c hc).1
 done:=by
  intro X hP hw hK hc i pins s σ H E I hf st hg
  subst hP hw hK
  obtain⟨gz,gI,⟨ta,tb,gO⟩,g1,g2⟩:=st
  obtain⟨xs,ys,CS,E9,hl⟩:=hg
  obtain⟨ia,ra,pa⟩:=I.CZ CS
  obtain⟨ib,rb,pb⟩:=I.CZ E9
  have la:=ra.length
  have lb:=rb.length
  refine Zt.pF (I.ok.hd hc) D gz gI gO g1 g2 pa pb ?_ fun g kk=>⟨rfl,I.Bw (t':=s.toks) (fun c o hc e=>?_) hf⟩
  ·rcases hl with q|q
   ·exact .inl (by simp;omega)
   ·exact .inr (by simp;omega)
  ·simp only[HW,Il,Jc,not_or]at hc
   exact kk c o hc.1 hc.2.2.1 hc.2.2.2.1 hc.2.2.2.2 e
 self:=fun _ _ _ _ _ st h=>wpAny_pyIter_zip st.1 h
section
variable {X:Cx}
def yI(K:Vo)(ta:TA):TI:=fun σ H R=>ta σ H fun vs H1=>∃ka kb a b,vs=[.ref a,.ref b]/\(∃xs,nV ka K H1 a xs)/\(∃ys,nV kb K H1 b ys)/\R (yH ka kb K a b) H1
def u_{elts:List Expr}{k0:Nat}{BO:Pos}{a b:Expr}{ta:TA}{p pos:Pos}(hg:Gl X "zip")(hm:X.mg "zip" = none)(hv:bootBuiltins "zip" = some (.type "zip"))(ha:PA X [a,b] ta)
  (hs:starEach [a,b] X.env=[(false,eval a X.env),(false,eval b X.env)]:=by rfl) (hs2:starEach [b] X.env=[(false,eval b X.env)]:=by rfl):PI X (.Tuple elts k0 BO) (.Call (.Name "zip" p) [a,b] [] pos) (yI X.K ta):=by
 intro pins s σ H R I h
 refine Call_ (df I hg hm hv (IC (zX (ha pos pins s σ H _ I h) fun us s1 ⟨vs,H1,I1,r1,q1⟩=>?_) (by rw[hs,hs2]) (by rw[hs2];rfl)))
 obtain⟨ka,kb,a,b,e,⟨xs,qa⟩,⟨ys,qb⟩,q⟩:=q1
 subst e
 obtain⟨u,v,rfl,ru,rv⟩:=oW r1
 cases ru
 cases rv
 obtain⟨ia,ra,pa⟩:=I1.CZ qa
 obtain⟨ib,rb,pb⟩:=I1.CZ qb
 have la:a < s1.heap.objs.size:=pa.lt
 have lb:b < s1.heap.objs.size:=pb.lt
 refine Zt.i0 pa pb fun g gz gI gO g1 g2 kk=>?_
 refine wpAny_pyIter_zip (s:={ s1 with heap:=g }) gz ?_
 refine⟨_,[s1.heap.objs.size+4,s1.heap.objs.size+2,s1.heap.objs.size+3,s1.heap.objs.size,s1.heap.objs.size+1],_,_,H1,rfl,I1.kept (t':=s1.toks) kk,pG (zipApart_new la lb),⟨gz,gI,⟨_,_,gO⟩,g1,g2⟩,fun c hc=>?_,q⟩
 have hle:s1.heap.objs.size<=c:=by
  simp only[HW,Il,Jc]at hc
  rcases hc with rfl|rfl|rfl|rfl|rfl
  ·exact JW _ _
  ·exact JW _ _
  ·exact JW _ _
  ·exact HU _
  ·exact JW _ _
 exact I1.BG hle (I1.hok.fresh hle)
def KD(P:Program)(w:World)(K:Vo)(a:Addr)(kvs:List (ba×V)):Prop:=(a == sysModules)=false/\∃o vs,K.lookup a=some o/\KV kvs vs/\Obj.IsDictOf (aK P w) o vs
def wT(a:Addr)(kvs:List (ba×V))(ty tx:TE):TE:=fun σ H Q=>ty σ H fun y H2=>tx σ H2 fun z H3=>∃k,y=kV k/\Q ((fg kvs k).getD z) H3
def sh{x:Str}{e f:Expr}{px apos cpos:Pos}{ty tx:TE}{a:Addr}{kvs:List (ba×V)}(hu:X.A.units+1 < cLine)(hg:Gl X x)(hm:X.mg x=some (.ref a))(hD:KD X.prog X.w X.K a kvs)(he:PE X e ty)(hf:PE X f tx)(m:M2 X (.Name x px) "get" apos e f cpos)
  (hd:(x == ("__debug__":Str))=false:=by decide):PE X (.Call (.Attribute (.Name x px) "get" apos) [e,f] [] cpos) (wT a kvs ty tx):=by
 intro pins s σ H Q I h
 obtain⟨hsys,o,vs,hk,rel,ii⟩:=hD
 have dd:∀{s1:Shared} {H1:Hp},Inv X pins σ H1 s1->s1.heap.DictOf (aK X.prog X.w) a vs:=fun I1=>Heap.dictOf_iff.mpr ⟨o,I1.De a o hk,ii⟩
 refine wpAny_Call_method m.base m.few m.line PySem.F.plainAttrs_dict JN PySem.F.type_dict_get (mK I hg hm ?_ hd)
 refine⟨(dd I).typeIs,fun b q=>?_,?_⟩
 ·cases q
  obtain⟨ob,_,_,h1,h2,_⟩:=dd I
  exact⟨ob,h1,h2.2.1⟩
 rw[m.trees]
 refine JG rfl (Kl (Ji (zX (he pins s σ H _ I h) fun iv s2 ⟨y,H2,I2,ry,q2⟩=>
  Ji (zX (hf pins s2 σ H2 _ I2 q2) fun fv s3 ⟨z,H3,I3,rz,k,ey,q3⟩=>JR ?_))))
 subst ey
 refine call_meetsIn JN (dd I3).typeIs KY (KP _ _ _) (meets_dict_get_default (aK X.prog X.w) a (ig ry) hsys fv) ⟨_,(dd I3).mapOf,⟨_,H3,I3.tok _,?_,q3⟩⟩
 exact(rel.val k).getD rz
end
section
variable {env:Env} {rest:List Expr} {pos:Pos}
def nW{a:Expr}{gs:List Comprehension}{sc:Scope}:starEach (.ListComp a gs sc pos::rest) env=(false,eval (.ListComp a gs sc pos) env)::starEach rest env:=rfl
end
noncomputable def yJ(K:Vo)(a:Addr):It:=
  ⟨fun i H=>∃xs x,SqL K H a xs/\xs[i]?=some x,
   fun i H v H'=>∃p x,v = .ref p/\H p=none/\H'=upd H p (.tup [.int (i:Nat),x])/\∀xs,SqL K H a xs->xs[i]?=some x,
   fun i H=>∃xs,SqL K H a xs/\xs.length<=i⟩
def nX{P:Program}{w:World}{K:Vo}{elts:List Expr}{k0:Nat}{BO:Pos}{e it a:Addr}(hei:e≠it) :
  ko P w K (.Tuple elts k0 BO) (yJ K a) [e,it] e (fun i h=>(∃old,IsEnum h e it i old)/\h.IsListIter it a i) where
 mem:=by simp
 obj:=fun i h st c hc=>by
  obtain⟨⟨old,ge⟩,⟨o1,e1,_,d1⟩⟩:=st
  simp only[HW,Il,Jc]at hc
  rcases hc with rfl|rfl
  ·exact⟨_,ge,fun v q=>by cases q⟩
  ·exact⟨_,e1,fun v q=>by rw[d1]at q;cases q⟩
 keep:=fun i h h' st k=>by
  obtain⟨⟨old,ge⟩,g1⟩:=st
  exact⟨⟨old,k e (by simp) _ ge⟩,g1.at fun o q=>k it (by simp) o q⟩
 item:=by
  intro X hP hw hK hc i pins s σ H E I hf st hg
  subst hP hw hK
  obtain⟨⟨old,ge⟩,g1⟩:=st
  obtain⟨xs,x,CS,hx⟩:=hg
  obtain⟨ia,ra,pa,za⟩:=I.list CS
  obtain⟨u,hu,ru⟩:=ra.get hx
  refine wpAny_pyNext_enum_item ge g1 pa.isList (x:=u) (by simpa using hu) hei fun g a1 a2 a3 a4 a5=>?_
  refine⟨_,rfl,wpAny_letOwnedTupleGo_enum (s:={ s with heap:=g,toks:=s.toks+1 }) a1 fun g' z' q'=>?_⟩
  have kk:∀c o,c ∉ [e,it]->s.heap.get? c=some o->g'.get? c=some o:=fun c o hc q=>by
   simp only[HW,Il,Jc,not_or]at hc
   exact(q'.2 c hc.1).trans (a5 c o hc.1 hc.2 q)
  have I1:Inv X pins σ H { s with heap:=g',toks:=s.toks+1 }:=I.Bw kk hf
  have f0:dm X pins H s.heap.objs.size:=I.BG (HU _) (I.hok.fresh (HU _))
  have FI:s.heap.objs.size≠e:=Kr (HS ge)
  have eT:As g' s.heap.objs.size [Value.int i s.toks,u].toArray:=⟨_,(q'.2 _ FI).trans a3,rfl,rfl,_,rfl⟩
  have I2:=I1.B3 (ys:=[.int i,x]) f0 eT (.cons ⟨_,rfl⟩ (.cons ru .nil)) (by show 2<=sizeLine;decide)
  refine⟨.ref s.heap.objs.size,_,I2,rfl,⟨s.heap.objs.size,x,rfl,f0.1,rfl,fun xs' h1=>by rw[I.B2 h1 CS];exact hx⟩,⟨⟨u,by simpa using z'⟩,a2.at fun o q=>(q'.2 it hei.symm).trans q⟩,fun c hc=>?_⟩
  have hlt:c < s.heap.objs.size:=by
   obtain⟨o1,e1,_⟩:=g1
   simp only[HW,Il,Jc]at hc
   rcases hc with rfl|rfl
   ·exact HS ge
   ·exact HS e1
  rw[av (Iq hlt)]
  exact(hf c hc).1
 done:=by
  intro X hP hw hK hc i pins s σ H E I hf st hg
  subst hP hw hK
  obtain⟨⟨old,ge⟩,g1⟩:=st
  obtain⟨xs,CS,hl⟩:=hg
  obtain⟨ia,ra,pa,za⟩:=I.list CS
  have la:=ra.length
  refine wpAny_pyNext_enum_end (I.ok.hd hc) ge g1 pa.isList (by simp;omega) fun g kk=>⟨rfl,I.Bw (t':=s.toks) (fun c o hc q=>?_) hf⟩
  simp only[HW,Il,Jc,not_or]at hc
  exact kk c o hc.2 q
 self:=fun _ _ _ _ _ st h=>by
  obtain⟨⟨old,ge⟩,_⟩:=st
  exact K1 ge h
end L2
namespace Et
open PySem
open Sem (wp)
open AutoSeq1 (wpAny_loadPart')
def tQ{P:Program}{w:World}{A:Around}(hh:A.handled=none)(it t:Addr)(hne:t≠it)(its:Vw) :
  Draws P w A it [it,t] its.size (fun i v=>its[i]?=some v) (fun i h=>h.IsTupleIter it t i/\h.IsTuple t its) where
 live:=fun i h st=>let ⟨⟨o,e,_⟩,_⟩:=st;⟨o,e⟩
 frame:=fun i h h' st k=>⟨st.1.at fun o e=>k it (by simp) o e,let ⟨o,e,r⟩:=st.2;⟨o,k t (by simp) o e,r⟩⟩
 item:=fun i s Q E hi st hQ=>Zt.nx st.1 st.2 (Ii hi) fun g a b=>hQ _ g s.toks (Ii hi) ⟨a,st.2.extBut b.extBut hne⟩ b
 done:=fun s Q E st hE=>Zt.zj hh st.1 st.2 (J5 (HU _)) hE
noncomputable abbrev E1(h:Heap)(l:Addr):Heap:=h.push { cls:=.type "tuple_iterator",data:=.fields #[.ref l,.int 0 0] }
noncomputable abbrev E2(h:Heap)(l:Addr):Heap:=(E1 h l).push { cls:=.type "enumerate",data:=.fields #[.none,.bool false,.ref h.objs.size,rawInt 0,.none,.none] }
def gH(l:Addr)(its:Vw)(n:Nat)(dct:Option Addr)(sl:Array (Option Value)) :
  Meets (Builtin.«enumerate.__new__» ⟨[.type "enumerate",.ref l],[]⟩) (fun _ R s=>s.heap.get? l=some { cls:=.type "tuple",dict:=dct,data:=.seq its n,slots:=sl }/\R (.ok (.ret (.ref (E1 s.heap l).objs.size))) { s with heap:=E2 s.heap l }):=
 .of_wp fun prog w A R s h=>by
  obtain⟨hp,g,d,tk,os⟩:=s;obtain⟨hl,h⟩:=h
  have hsub:=sub_enumerate
  have T:Heap.IsTuple (Shared.heap ⟨hp,g,d,tk,os⟩) l its:=⟨_,hl,rfl,n,rfl⟩
  wp_walk using KG hl
  refine wpAny_stack_any fun st=>HR ?_
  split
  ·rename_i c _ _ _ _ _
   cases (c == Value.type "enumerate")
   ·wp_walk using KG hl,Jj T
    exact⟨_,rfl,h⟩
   ·wp_walk using KG hl,Jj T
    exact⟨_,rfl,h⟩
  ·wp_walk using KG hl,Jj T
   exact⟨_,rfl,h⟩
def i0{P:Program}{w:World}{A:Around}{E:Vq}{s:Shared}{l:Addr}{its:Vw}{Q:Vq}(hT:s.heap.IsTuple l its)
  (k:∀g,IsEnum g (s.heap.objs.size+1) s.heap.objs.size 0 .none->g.IsTupleIter s.heap.objs.size l 0->(∀b o,s.heap.get? b=some o->g.get? b=some o)->Q (.ref (s.heap.objs.size+1)) { s with heap:=g }) :
  wpAny (model P w) A (call (.type "enumerate") [.ref l]) Q E s:=by
 obtain⟨⟨c,dct,dt,sl⟩,hl,hc,n,hd⟩:=hT
 replace hc:c = .type "tuple":=hc
 replace hd:dt = .seq its n:=hd
 subst hc hd
 refine callType_new F.called_enumerate (by decide) (F.typeCall_enumerate_1 _) (F.newCall_enumerate_1 _) (fun obj=>F.args_object_init_2 obj _) F.entry_enumerate_new (gH l its n dct sl) ⟨hl,?_⟩
 have hz:(E1 s.heap l).objs.size=s.heap.objs.size+1:=Jx ..
 show _/\_
 rw[hz]
 have he:IsEnum (E2 s.heap l) (s.heap.objs.size+1) s.heap.objs.size 0 .none:=by
  have q:=Ia (E1 s.heap l) (o:={ cls:=.type "enumerate",data:=.fields #[.none,.bool false,.ref s.heap.objs.size,rawInt 0,.none,.none] }) rfl
  rw[hz]at q
  exact q
 exact⟨⟨_,he,rfl⟩,k _ he ⟨_,HN _ (Ia _ rfl),rfl,rfl⟩ fun b o x=>HN _ (HN _ x)⟩
end Et
namespace L2
open PySem PySem.Spec PyProof.Rows
noncomputable def yK(K:Vo)(a:Addr):It:=
  ⟨fun i H=>∃xs x,SqT K H a xs/\xs[i]?=some x,
   fun i H v H'=>∃p x,v = .ref p/\H p=none/\H'=upd H p (.tup [.int (i:Nat),x])/\∀xs,SqT K H a xs->xs[i]?=some x,
   fun i H=>∃xs,SqT K H a xs/\xs.length=i⟩
def l8{P:Program}{w:World}{K:Vo}{elts:List Expr}{k0:Nat}{BO:Pos}{e it a:Addr}(hei:e≠it)(G3:a≠e)(hai:a≠it) :
  ko P w K (.Tuple elts k0 BO) (yK K a) [e,it] e (fun i h=>(∃old,IsEnum h e it i old)/\h.IsTupleIter it a i) where
 mem:=by simp
 obj:=fun i h st c hc=>by
  obtain⟨⟨old,ge⟩,⟨o1,e1,_,d1⟩⟩:=st
  simp only[HW,Il,Jc]at hc
  rcases hc with rfl|rfl
  ·exact⟨_,ge,fun v q=>by cases q⟩
  ·exact⟨_,e1,fun v q=>by rw[d1]at q;cases q⟩
 keep:=fun i h h' st k=>by
  obtain⟨⟨old,ge⟩,g1⟩:=st
  exact⟨⟨old,k e (by simp) _ ge⟩,g1.at fun o q=>k it (by simp) o q⟩
 item:=by
  intro X hP hw hK hc i pins s σ H E I hf st hg
  subst hP hw hK
  obtain⟨⟨old,ge⟩,g1⟩:=st
  obtain⟨xs,x,CS,hx⟩:=hg
  obtain⟨ia,ra,pa,za⟩:=I.tuple CS
  obtain⟨u,hu,ru⟩:=ra.get hx
  have hil:i < ia.toArray.size:=by
   rcases Nat.lt_or_ge i ia.length with q|q
   ·simpa using q
   ·rw[Jq q]at hu;cases hu
  refine wpAny_pyNext_enum_itemD (Et.tQ (P:=X.prog) (w:=X.w) (A:=X.A.in1) (I.ok.hd hc) it a hai ia.toArray) ge ⟨g1,(show s.heap.IsTuple a ia.toArray from pa)⟩ hil hei (by simp[hei,JM G3]) fun v g tk hv a1 a2 a3 a4 a5=>?_
  have ev:v=u:=by
   have q:ia[i]?=some v:=by simpa using hv
   rw[q]at hu
   exact IY hu
  subst ev
  refine⟨_,rfl,wpAny_letOwnedTupleGo_enum (s:={ s with heap:=g,toks:=tk+1 }) a1 fun g' z' q'=>?_⟩
  have kk:∀c o,c ∉ [e,it]->s.heap.get? c=some o->g'.get? c=some o:=fun c o hc q=>by
   simp only[HW,Il,Jc,not_or]at hc
   exact(q'.2 c hc.1).trans (a5 c o hc.1 hc.2 q)
  have I1:Inv X pins σ H { s with heap:=g',toks:=tk+1 }:=I.Bw kk hf
  have f0:dm X pins H s.heap.objs.size:=I.BG (HU _) (I.hok.fresh (HU _))
  have FI:s.heap.objs.size≠e:=Kr (HS ge)
  have eT:As g' s.heap.objs.size [Value.int i tk,v].toArray:=⟨_,(q'.2 _ FI).trans a3,rfl,rfl,_,rfl⟩
  have I2:=I1.B3 (ys:=[.int i,x]) f0 eT (.cons ⟨_,rfl⟩ (.cons ru .nil)) (by show 2<=sizeLine;decide)
  refine⟨.ref s.heap.objs.size,_,I2,rfl,⟨s.heap.objs.size,x,rfl,f0.1,rfl,fun xs' h1=>by rw[I.BN h1 CS];exact hx⟩,⟨⟨v,by simpa using z'⟩,a2.1.at fun o q=>(q'.2 it hei.symm).trans q⟩,fun c hc=>?_⟩
  have hlt:c < s.heap.objs.size:=by
   obtain⟨o1,e1,_⟩:=g1
   simp only[HW,Il,Jc]at hc
   rcases hc with rfl|rfl
   ·exact HS ge
   ·exact HS e1
  rw[av (Iq hlt)]
  exact(hf c hc).1
 done:=by
  intro X hP hw hK hc i pins s σ H E I hf st hg
  subst hP hw hK
  obtain⟨⟨old,ge⟩,g1⟩:=st
  obtain⟨xs,CS,hl⟩:=hg
  obtain⟨ia,ra,pa,za⟩:=I.tuple CS
  have la:=ra.length
  have ei:i=ia.toArray.size:=by simp;omega
  subst ei
  refine wpAny_pyNext_enum_endD (Et.tQ (P:=X.prog) (w:=X.w) (A:=X.A.in1) (I.ok.hd hc) it a hai ia.toArray) ge ⟨g1,(show s.heap.IsTuple a ia.toArray from pa)⟩ fun g kk=>⟨rfl,I.Bw (t':=s.toks) (fun c o hc q=>?_) hf⟩
  simp only[HW,Il,Jc,not_or]at hc
  exact kk c o hc.2 q
 self:=fun _ _ _ _ _ st h=>by
  obtain⟨⟨old,ge⟩,_⟩:=st
  exact K1 ge h
section
variable {X:Cx}
def nY:fW X (compareOp .IsNot) (fun x y H Q=>x = .bl true/\y = .bl true/\Q (.bl false) H):=by
 intro pins s σ H x y v u Q I rx ry h
 obtain⟨rfl,rfl,q⟩:=h
 cases (show v=Value.bool true from rx)
 cases (show u=Value.bool true from ry)
 exact wpAny_isNot_self rfl ⟨.bl false,H,I,rfl,q⟩
end
def pH(w:World)(x:Str):PyData.keyHash w.params x=hashStr w x:=rfl
noncomputable abbrev xU(w:World)(x:Str×Int×Tok×Tok):DictEntry:=⟨PyData.keyHash w.params x.1,.str x.1 x.2.2.1,.int x.2.1 x.2.2.2⟩
def va(P:Program)(w:World)(xs:List (Str×Int×Tok×Tok))(ep:Nat)(nd:(xs.map (·.1)).Nodup) :
  ∃vs,KV (xs.map fun x=>((Sum.inr x.1:ba),V.int x.2.1)) vs/\Obj.IsDictOf (aK P w) { cls:=.type "dict",data:=.dict (xs.map (xU w)).toArray ep } vs:=by
 refine⟨xs.map fun x=>((Sum.inr x.1:ba),Value.int x.2.1 x.2.2.2),?_,(xs.map (xU w)).toArray,ep,⟨rfl,rfl,rfl⟩,rfl,?_,?_,?_⟩
 ·induction xs with
  |nil=>exact .nil
  |cons x xs ih=>exact .cons ⟨rfl,_,rfl⟩ (ih (by simpa using(Jd.mp (by simpa using nd)).2))
 ·intro e he
  have he':e∈xs.map (xU w):=by simpa using he
  obtain⟨x,_,rfl⟩:=ID.mp he'
  exact⟨Sum.inr x.1,gD x.1 x.2.2.1,pH w x.1⟩
 ·have key:∀ys:List (Str×Int×Tok×Tok),Pairs (aK P w) (ys.map (xU w)) (ys.map fun x=>((Sum.inr x.1:ba),Value.int x.2.1 x.2.2.2)):=by
   intro ys
   induction ys with
   |nil=>exact .nil
   |cons y ys ih=>exact .cons (gD y.1 y.2.2.1) rfl ih
  exact key xs
 ·rw[JH]
  have e:((fun x:ba×Value=>x.1) ∘ fun x:Str×Int×Tok×Tok=>((Sum.inr x.1:ba),Value.int x.2.1 x.2.2.2))=fun x=>Sum.inr x.1:=rfl
  have key:∀ys:List (Str×Int×Tok×Tok),(ys.map (·.1)).Nodup->(ys.map fun x=>(Sum.inr x.1:ba)).Nodup:=by
   intro ys
   induction ys with
   |nil=>intro _;exact Lo
   |cons y ys ih=>
    intro h
    rw[Io,Jd]at h ⊢
    refine⟨fun hm=>h.1 ?_,ih h.2⟩
    obtain⟨z,hz,e⟩:=ID.mp hm
    have e':z.1=y.1:=Sum.inr.inj e
    exact ID.mpr ⟨z,hz,e'⟩
  exact key xs nd
end L2
namespace Wd
open PySem L2 PyProof.Rows
noncomputable def abc:Str:="abcdefghijklmnopqrstuvwxyz"
noncomputable def AN:List Str:=["jars","deed","rest","pay","put","then","either","take","often","use"]
def vb:∀i,i < 26->abc.cps.toList[i]?=some (97+i):=by decide +kernel
def iK:abc.length<=sizeLine/\abc.cps.toList.length=26:=by decide +kernel
def pI:∀i,i < 26->Builtin.Str.occurrences abc (kE (97+i)) 0 abc.length 1=[i]:=by decide +kernel
theorem mW{α:Type} [BEq α] [LawfulBEq α]:∀{xs ys:List α},xs.Nodup->(∀x∈xs,x∈ys)->xs.length<=ys.length
 |[],ys,_,_=>IA _
 |x::xs,ys,nd,h=>by
  have hx:=h x (Jh ..)
  have q:=mW (xs:=xs) (ys:=ys.erase x) (Jd.mp nd).2 fun y hy=>by
   have ne:y≠x:=fun e=>(Jd.mp nd).1 (e▸hy)
   exact(List.mem_erase_of_ne ne).mpr (h y (Jk _ hy))
  rw[List.length_erase_of_mem hx]at q
  have:=List.length_pos_of_mem hx
  rw[Ih]
  omega
noncomputable def cand(r:List Nat)(i:Nat):Str:=⟨((97+i % 26)::r).toArray⟩
def pJ{r:List Nat}{i j:Nat}(h:cand r i=cand r j):i % 26=j % 26:=by
 have e:(((97+i % 26)::r).toArray).toList=(((97+j % 26)::r).toArray).toList:=I9 (fun z:Str=>z.cps.toList) h
 simp only[List.cons.injEq]at e
 omega
def l9(r:List Nat)(c:Nat):((List.range 26).map fun i=>cand r (c+i)).Nodup:=by
 refine List.pairwise_map.mpr (List.Pairwise.imp_of_mem (R:=(·≠·)) ?_ List.nodup_range)
 intro a b ha hb ne e
 have h1:=Kh.mp ha
 have h2:=Kh.mp hb
 have h3:=pJ e
 omega
def nZ(r:List Nat)(c:Nat)(bad:Vs)(h:bad.length < 26):∃j,j < 26/\cand r (c+j) ∉ bad:=by
 refine Classical.byContradiction fun no=>?_
 have q:=mW (l9 r c) (ys:=bad) fun x hx=>by
  obtain⟨j,hj,rfl⟩:=ID.mp hx
  exact Classical.byContradiction fun z=>no ⟨j,Kh.mp hj,z⟩
 rw[HM,Lu]at q
 omega
structure Ch (z:Str):Prop where
 ne:z.cps.toList≠[]
 le:z.cps.toList.length<=6
 sm:∀c∈z.cps.toList,97<=c/\c<=122
theorem Ch.cand{z:Str}(h:Ch z):∃i r,z=Wd.cand r i/\i < 26/\r.length<=5/\∀c∈r,97<=c/\c<=122:=by
 obtain⟨⟨⟨l⟩⟩,ne,le,sm⟩:∃z',_/\_/\_:=⟨z,h.ne,h.le,h.sm⟩
 obtain⟨⟨l⟩⟩:=z
 cases l with
 |nil=>exact absurd rfl h.ne
 |cons c r=>
  have q:=h.sm c (Jh ..)
  refine⟨c - 97,r,?_,by omega,by have:=h.le;simp at this;omega,fun d hd=>h.sm d (Jk _ hd)⟩
  unfold Wd.cand
  rw[show 97+(c - 97) % 26=c by omega]
def pK{r:List Nat}(h:r.length<=5)(hs:∀c∈r,97<=c/\c<=122)(i:Nat):Ch (cand r i):=by
 refine⟨by simp[cand],by simp[cand];omega,fun c hc=>?_⟩
 have hc':c∈(97+i % 26)::r:=hc
 rcases HW.mp hc' with e|e
 ·omega
 ·exact hs c e
def Ch.len{z:Str}(h:Ch z):z.length<=6:=by have q:=h.le;rw[Lk]at q;exact q
def Ch.line{z:Str}(h:Ch z):z.length<=sizeLine:=Ik h.len (by decide)
def jY(r:List Nat)(i:Nat):AD (cand r i).cps.toList 0=some (97+i % 26):=cw (j:=0) rfl
def eX(r:List Nat)(i:Nat):Txt.slice (cand r i) (some 1) none=⟨r.toArray⟩:=by
 have e:Txt.slice (cand r i) (some 1) none=StrLaws.sliceText (cand r i) (some 1) none:=rfl
 rw[e,StrLaws.sliceText_from ⟨by decide,by simp[cand];omega⟩]
 simp[cand]
def jZ(r:List Nat)(i:Nat):(kE (97+(i+1) % 26):Str)++(⟨r.toArray⟩:Str)=cand r (i+1):=by
 refine Str.ext' ?_
 show #[97+(i+1) % 26]++r.toArray=_
 simp[cand]
def kF(i:Nat):AD abc.cps.toList ((i % 26:Nat):Int)=some (97+i % 26):=cw (vb _ (Nat.mod_lt _ (by decide)))
def i3(cs:List Nat):Txt.join "" (cs.map kE)=⟨cs.toArray⟩:=by
 have q:=join_nil_signs ⟨cs.toArray⟩
 have e:Txt.join "" (cs.map kE)=Str.join ⟨#[]⟩ (cs.map kE):=StrLaws.glued_eq_join _ _
 rw[e]
 exact q
def si(cs:List Nat):((cs.map kE).map (·.length)).sum=cs.length:=by
 induction cs with
 |nil=>rfl
 |cons c r ih=>rw[Io,Io,List.sum_cons,ih,Ih];show 1+r.length=_;omega
def sj{cs:List Nat}{a i:Nat}(h:cs.length<=5)(hs:∀c∈cs,97<=c/\c<=122)(ha:a<=cs.length)(hi:i < 26) :
  Ch (Txt.slice ⟨cs.toArray⟩ none (some (a:Int))++(kE (97+i):Str)++Txt.slice ⟨cs.toArray⟩ (some (a:Int)) none)/\(Txt.slice ⟨cs.toArray⟩ none (some (a:Int))).length<=5/\(Txt.slice ⟨cs.toArray⟩ (some (a:Int)) none).length<=5:=by
 have e1:Txt.slice ⟨cs.toArray⟩ none (some (a:Int))=⟨(cs.take a).toArray⟩:=by
  have e:Txt.slice ⟨cs.toArray⟩ none (some (a:Int))=StrLaws.sliceText ⟨cs.toArray⟩ none (some (a:Int)):=rfl
  rw[e,StrLaws.sliceText_to ⟨by omega,by simp;omega⟩]
  simp
 have e2:Txt.slice ⟨cs.toArray⟩ (some (a:Int)) none=⟨(cs.drop a).toArray⟩:=by
  have e:Txt.slice ⟨cs.toArray⟩ (some (a:Int)) none=StrLaws.sliceText ⟨cs.toArray⟩ (some (a:Int)) none:=rfl
  rw[e,StrLaws.sliceText_from ⟨by omega,by simp;omega⟩]
  refine Str.ext' ?_
  show((cs.drop (a:Int).toNat).take ((cs.length:Int) - a).toNat).toArray=(cs.drop a).toArray
  rw[JS,J6 (by rw[IQ];omega)]
 rw[e1,e2]
 have e3:((⟨(cs.take a).toArray⟩:Str)++(kE (97+i):Str)++(⟨(cs.drop a).toArray⟩:Str)).cps.toList=cs.take a++[97+i]++cs.drop a:=by
  show((cs.take a).toArray++#[97+i]++(cs.drop a).toArray).toList=_
  simp
 refine⟨⟨by rw[e3];simp,by rw[e3];simp;omega,fun c hc=>?_⟩,?_,?_⟩
 ·rw[e3]at hc
  rcases HV.mp hc with hc|hc
  ·rcases HV.mp hc with hc|hc
   ·exact hs c (IW hc)
   ·rw[Ij.mp hc];omega
  ·exact hs c (Km hc)
 ·show(cs.take a).toArray.size<=5
  rw[HQ,IG];omega
 ·show(cs.drop a).toArray.size<=5
  rw[HQ,IQ];omega
end Wd
namespace M3
noncomputable def kG(t b:Int):Int:=(if b < 0 then -t else t) / (Int.gcd t b:Int)
noncomputable def li(t b:Int):Int:=(if b < 0 then -b else b) / (Int.gcd t b:Int)
def f8{t b:Int}(h:b≠0):0 < Int.gcd t b:=Nat.gcd_pos_of_pos_right _ (by omega)
def vc{t b:Int}(h:b≠0):(Int.gcd t b:Int)<=b.natAbs:=by
 have q:Nat.gcd t.natAbs b.natAbs<=b.natAbs:=Nat.gcd_le_right _ (by omega)
 have e:Int.gcd t b=Nat.gcd t.natAbs b.natAbs:=rfl
 omega
def pL(t b:Int):Int.gcd (-t) (-b)=Int.gcd t b:=by rw[Int.gcd_neg,Int.neg_gcd]
def parts(t b:Int):∃x y:Int,t=(Int.gcd t b:Int) * x/\b=(Int.gcd t b:Int) * y:=by
 obtain⟨x,hx⟩:=Int.gcd_dvd_left t b
 obtain⟨y,hy⟩:=Int.gcd_dvd_right t b
 exact⟨x,y,hx,hy⟩
def vd{t b x y g:Int}(hg:g=(Int.gcd t b:Int))(h:b≠0)(ht:t=g * x)(hb:b=g * y):kG t b=(if y < 0 then -x else x)/\li t b=(if y < 0 then -y else y):=by
 have gp:0 < g:=by rw[hg];exact Li.mpr (f8 h)
 have hy:b < 0↔y < 0:=by
  rw[hb]
  constructor
  ·intro q
   by_cases z:y < 0
   ·exact z
   ·have:=Int.mul_nonneg (Lm gp) (Int.not_lt.mp z)
    omega
  ·intro q
   exact Int.mul_neg_of_pos_of_neg gp q
 unfold kG li
 rw[<-hg]
 by_cases z:y < 0
 ·rw[if_pos (hy.mpr z),if_pos (hy.mpr z),if_pos z,if_pos z]
  constructor
  ·rw[ht,<-Int.mul_neg,JV _ (by omega)]
  ·rw[hb,<-Int.mul_neg,JV _ (by omega)]
 ·rw[if_neg (fun q=>z (hy.mp q)),if_neg (fun q=>z (hy.mp q)),if_neg z,if_neg z]
  constructor
  ·rw[ht,JV _ (by omega)]
  ·rw[hb,JV _ (by omega)]
def sk{t b x y:Int}(h:b≠0)(ht:t=(Int.gcd t b:Int) * x)(hb:b=(Int.gcd t b:Int) * y):Int.gcd x y=1:=by
 have gp:=f8 (t:=t) h
 have q:Int.gcd ((Int.gcd t b:Int) * x) ((Int.gcd t b:Int) * y)=(Int.gcd t b:Int).natAbs * Int.gcd x y:=Int.gcd_mul_left _ _ _
 rw[<-ht,<-hb,Int.natAbs_natCast]at q
 have q2:Int.gcd t b * 1=Int.gcd t b * Int.gcd x y:=by omega
 exact(Nat.eq_of_mul_eq_mul_left gp q2).symm
structure zk (a b:Int):Prop where
 pos:0 < b
 one:Int.gcd a b=1
def mX{t b:Int}(h:b≠0):zk (kG t b) (li t b):=by
 obtain⟨x,y,ht,hb⟩:=parts t b
 have c:=sk h ht hb
 obtain⟨e1,e2⟩:=vd rfl h ht hb
 have y0:y≠0:=fun z=>h (by rw[hb,z,Int.mul_zero])
 rw[e1,e2]
 by_cases z:y < 0
 ·rw[if_pos z,if_pos z]
  exact⟨by omega,by rw[pL];exact c⟩
 ·rw[if_neg z,if_neg z]
  exact⟨by omega,c⟩
def pM{t b:Int}(h:b≠0):t.fdiv (if b < 0 then -(Int.gcd t b:Int) else (Int.gcd t b:Int))=kG t b/\b.fdiv (if b < 0 then -(Int.gcd t b:Int) else (Int.gcd t b:Int))=li t b:=by
 have gp:(0:Int) < (Int.gcd t b:Int):=Li.mpr (f8 h)
 have d1:=Int.gcd_dvd_left t b
 have d2:=Int.gcd_dvd_right t b
 unfold kG li
 by_cases z:b < 0
 ·rw[if_pos z,if_pos z,if_pos z,Int.fdiv_neg (by omega),if_pos d1,Int.fdiv_neg (by omega),if_pos d2,JX d1,JX d2,Int.neg_ediv_of_dvd d1,Int.neg_ediv_of_dvd d2]
  exact⟨rfl,rfl⟩
 ·rw[if_neg z,if_neg z,if_neg z,JX d1,JX d2]
  exact⟨rfl,rfl⟩
def pN(x y:Int):Int.gcd y (x.fmod y)=Int.gcd x y:=by
 have q:=Int.mul_fdiv_add_fmod x y
 have e:Int.gcd y (x.fmod y+x.fdiv y * y)=Int.gcd y (x.fmod y):=Int.gcd_add_mul_right_right _ _ _
 rw[<-e,Int.mul_comm (x.fdiv y) y,Int.add_comm,q,Int.gcd_comm]
def pO{t b T B:Int}(h:b≠0)(h1:-T<=t)(h2:t<=T)(h3:-B<=b)(h4:b<=B)(hT:0<=T)(hB:0<=B):-T<=kG t b/\kG t b<=T/\0 < li t b/\li t b<=B:=by
 have gp:(0:Int) < (Int.gcd t b:Int):=Li.mpr (f8 h)
 have L:=(mX (t:=t) h).pos
 have key:∀z M:Int,0<=M->-M<=z->z<=M->-M<=z / (Int.gcd t b:Int)/\z / (Int.gcd t b:Int)<=M:=fun z M hM z1 z2=>by
  generalize (Int.gcd t b:Int)=g at gp
  have m2:M * 1<=M * g:=Int.mul_le_mul_of_nonneg_left (by omega) hM
  have m3:-M * g = -(M * g):=Int.neg_mul M g
  exact⟨Int.le_ediv_of_mul_le gp (by omega),Int.ediv_le_of_le_mul gp (by omega)⟩
 have k1:=key (if b < 0 then -t else t) T hT (by split<;>omega) (by split<;>omega)
 have k2:=key (if b < 0 then -b else b) B hB (by split<;>omega) (by split<;>omega)
 exact⟨k1.1,k1.2,L,k2.2⟩
end M3
namespace Xc
open PySem PySem.W PySem.Calls PyProof.Rows Builtin Builtin.ObjectAttr
structure yL (h:Heap) (e:Addr) (oe:Obj) (vs:Vw):Prop where
 at_:h.get? e=some oe
 dat:oe.data = .fields vs
 tb:vs[1]?=some .none\/∃T oT ts,vs[1]?=some (.ref T)/\T≠e/\h.get? T=some oT/\oT.data = .fields ts/\ts[3]?=some .none
end Xc
namespace L2
open PySem PySem.Spec PyProof.Rows Xc
def zz(X:Cx)(pins:Va)(H:Hp)(h:Heap)(a C dx:Addr):Prop:=
 ∃oe vs,yL h a oe vs/\oe.cls = .ref C/\oe.dict=some dx/\dm X pins H a/\∀T,vs[1]?=some (.ref T)->dm X pins H T
def XD(dx:Addr)(fs:List (Str×V))(h:Heap):Prop:=∃mA,h.Ns1 dx mA/\(∀f,RelO (fs.lookup f) (mA f))/\PySem.Within mA (fs.map (·.1))
end L2
namespace L3
open PySem L2
inductive PV where
 |non|bl (b:Bool)|int (i:Int)|str (x:Str)|tup (xs:List PV)|cl (xs:List PV)|ref (a:Addr)|ty (n:String)|exc (c:Str) (ks:Vs) (ps:List PV)|cls (c:Str)
def Ez(K:Vo)(H:Hp)(a:Addr)(xs:List V):Prop:=
 (∃o,H a=some (.frz o (.lst xs))) \/
  ∃(o:Obj) (its:Vw) (n:Nat),K.lookup a=some o/\o.cls = .type "list"/\o.dict=none/\o.data = .seq its n/\its.size<=sizeLine/\Vals xs its.toList
def Ez.sq{K:Vo}{H:Hp}{a:Addr}{xs:List V}(h:Ez K H a xs):SqL K H a xs:=h.elim (fun z=>.inl (.inr z)) .inr
def E_(H:Hp)(a C:Addr)(ks:Vs)(vs:List V):Prop:=
 ∃oe dx od,H a=some (.frz oe (.ext fun _=>True))/\oe.cls = .ref C/\oe.dict=some dx/\(∀c,oe.data ≠ .cls c)/\H dx=some (.frz od (.ext (XD dx (ks.zip vs))))
def sn(K:Vo)(c:Str)(C:Addr):Prop:=PySem.W.nsIn K mainGlobals c=some (some (.ref C))
mutual
inductive Rep (K:Vo) (H:Hp):V->PV->Prop
 |non:Rep K H .non .non
 |bl (b:Bool):Rep K H (.bl b) (.bl b)
 |int (i:Int):Rep K H (.int i) (.int i)
 |str (x:Str):Rep K H (.str x) (.str x)
 |ty (n:String):Rep K H (.ty n) (.ty n)
 |ref (a:Addr):Rep K H (.ref a) (.ref a)
 |tup {a:Addr} {vs:List V} {ps:List PV}:SqT K H a vs->Reps K H vs ps->Rep K H (.ref a) (.tup ps)
 |cl {a:Addr} {vs:List V} {ps:List PV}:Ez K H a vs->Reps K H vs ps->Rep K H (.ref a) (.cl ps)
 |exc {a C:Addr} {c:Str} {ks:Vs} {vs:List V} {ps:List PV}:sn K c C->E_ H a C ks vs->Reps K H vs ps->Rep K H (.ref a) (.exc c ks ps)
 |cls {C:Addr} {c:Str}:sn K c C->Rep K H (.ref C) (.cls c)
inductive Reps (K:Vo) (H:Hp):List V->List PV->Prop
 |nil:Reps K H [] []
 |cons {v:V} {p:PV} {vs:List V} {ps:List PV}:Rep K H v p->Reps K H vs ps->Reps K H (v::vs) (p::ps)
end
structure Grow (K:Vo) (H H':Hp):Prop where
 t:∀a vs,SqT K H a vs->SqT K H' a vs
 c:∀a vs,Ez K H a vs->Ez K H' a vs
 x:∀a o u,H a=some (.frz o u)->H' a=some (.frz o u)
def Grow.refl{K:Vo}{H:Hp}:Grow K H H:=⟨fun _ _ h=>h,fun _ _ h=>h,fun _ _ _ h=>h⟩
def Grow.trans{K:Vo}{H H1 H2:Hp}(a:Grow K H H1)(b:Grow K H1 H2):Grow K H H2:=⟨fun x vs h=>b.t x vs (a.t x vs h),fun x vs h=>b.c x vs (a.c x vs h),fun x o u h=>b.x x o u (a.x x o u h)⟩
def E_.mono{K:Vo}{H H':Hp}(g:Grow K H H'){a C:Addr}{ks:Vs}{vs:List V}(h:E_ H a C ks vs):E_ H' a C ks vs:=let ⟨oe,dx,od,h1,h2,h3,h4,h5⟩:=h;⟨oe,dx,od,g.x _ _ _ h1,h2,h3,h4,g.x _ _ _ h5⟩
def Grow.of{K:Vo}{H H':Hp}(h:∀a xs,H a=some (.tup xs)->H' a=some (.tup xs))(h2:∀a o u,H a=some (.frz o u)->H' a=some (.frz o u)):Grow K H H':=by
 refine⟨fun a vs q=>?_,fun a vs q=>?_,h2⟩
 ·rcases q with(q|⟨o,q⟩)|q
  ·exact .inl (.inl (h a vs q))
  ·exact .inl (.inr ⟨o,h2 a o _ q⟩)
  ·exact .inr q
 ·rcases q with⟨o,q⟩|q
  ·exact .inl ⟨o,h2 a o _ q⟩
  ·exact .inr q
def Grow.same{K:Vo}{H H':Hp}(h:∀c o,H c=some o->H' c=some o):Grow K H H':=.of (fun a _ q=>h a _ q) (fun a _ _ q=>h a _ q)
def Grow.new{K:Vo}{H:Hp}{p:Addr}{o:HO}(h:H p=none):Grow K H (upd H p o):=.same fun c u q=>by rw[av (aM q h)];exact q
noncomputable def Mu:HO->Prop
 | .tup _=>False
 | .frz _ _=>False
 |_=>True
def Grow.mut{K:Vo}{H:Hp}{p:Addr}{o u:HO}(h:H p=some u)(m:Mu u):Grow K H (upd H p o):=
 .of (fun a xs q=>by rw[av (fun e=>by subst e;rw[h]at q;cases q;exact m)];exact q) (fun a _ _ q=>by rw[av (fun e=>by subst e;rw[h]at q;cases q;exact m)];exact q)
mutual
theorem Rep.mono{K:Vo}{H H':Hp}(g:Grow K H H'):∀{v:V} {p:PV},Rep K H v p->Rep K H' v p
 |_,_,.non=>.non
 |_,_,.bl b=>.bl b
 |_,_,.int i=>.int i
 |_,_,.str x=>.str x
 |_,_,.ty n=>.ty n
 |_,_,.ref a=>.ref a
 |_,_,.tup h r=>.tup (g.t _ _ h) (Reps.mono g r)
 |_,_,.cl h r=>.cl (g.c _ _ h) (Reps.mono g r)
 |_,_,.exc n h r=>.exc n (h.mono g) (Reps.mono g r)
 |_,_,.cls n=>.cls n
theorem Reps.mono{K:Vo}{H H':Hp}(g:Grow K H H'):∀{vs:List V} {ps:List PV},Reps K H vs ps->Reps K H' vs ps
 |_,_,.nil=>.nil
 |_,_,.cons a r=>.cons (Rep.mono g a) (Reps.mono g r)
end
theorem Reps.length{K:Vo}{H:Hp}:∀{vs:List V} {ps:List PV},Reps K H vs ps->vs.length=ps.length
 |_,_,.nil=>rfl
 |_,_,.cons _ r=>by rw[Ih,Ih,Reps.length r]
theorem Reps.append{K:Vo}{H:Hp}:∀{vs us:List V} {ps qs:List PV},Reps K H vs ps->Reps K H us qs->Reps K H (vs++us) (ps++qs)
 |_,_,_,_,.nil,s=>s
 |_,_,_,_,.cons a r,s=>.cons a (Reps.append r s)
theorem Reps.get{K:Vo}{H:Hp}:∀{vs:List V} {ps:List PV} {i:Nat} {p:PV},Reps K H vs ps->ps[i]?=some p->∃v,vs[i]?=some v/\Rep K H v p
 |_,_,_,_,.nil,e=>by simp at e
 |_,_,0,_,.cons a r,e=>by simp at e;subst e;exact⟨_,rfl,a⟩
 |_,_,i+1,p,.cons a r,e=>by
  obtain⟨v,h1,h2⟩:=Reps.get (i:=i) (p:=p) r (by simpa using e)
  exact⟨v,by simpa using h1,h2⟩
theorem Reps.take{K:Vo}{H:Hp}:∀{vs:List V} {ps:List PV} (n:Nat),Reps K H vs ps->Reps K H (vs.take n) (ps.take n)
 |_,_,0,_=>.nil
 |_,_,_+1,.nil=>.nil
 |_,_,n+1,.cons a r=>.cons a (Reps.take n r)
theorem Reps.drop{K:Vo}{H:Hp}:∀{vs:List V} {ps:List PV} (n:Nat),Reps K H vs ps->Reps K H (vs.drop n) (ps.drop n)
 |_,_,0,r=>r
 |_,_,_+1,.nil=>.nil
 |_,_,n+1,.cons _ r=>Reps.drop n r
theorem Reps.set{K:Vo}{H:Hp}{v:V}{p:PV}(q:Rep K H v p):∀{vs:List V} {ps:List PV} (n:Nat),Reps K H vs ps->Reps K H (vs.set n v) (ps.set n p)
 |_,_,_,.nil=>.nil
 |_,_,0,.cons _ r=>.cons q r
 |_,_,n+1,.cons a r=>.cons a (Reps.set q n r)
theorem Reps.eraseIdx{K:Vo}{H:Hp}:∀{vs:List V} {ps:List PV} (n:Nat),Reps K H vs ps->Reps K H (vs.eraseIdx n) (ps.eraseIdx n)
 |_,_,_,.nil=>.nil
 |_,_,0,.cons _ r=>r
 |_,_,n+1,.cons a r=>.cons a (Reps.eraseIdx n r)
theorem Reps.reverse{K:Vo}{H:Hp}:∀{vs:List V} {ps:List PV},Reps K H vs ps->Reps K H vs.reverse ps.reverse
 |_,_,.nil=>.nil
 |_,_,.cons a r=>by rw[KW,KW];exact(Reps.reverse r).append (.cons a .nil)
theorem Reps.dropLast{K:Vo}{H:Hp}{vs:List V}{ps:List PV}(r:Reps K H vs ps):Reps K H vs.dropLast ps.dropLast:=by
 rw[List.dropLast_eq_take,List.dropLast_eq_take,r.length]
 exact r.take _
inductive SO where
 |lst (xs:List PV)
 |dct (kvs:List (ba×PV))
 |ins (c:Str) (fs:List (Str×PV))
abbrev ar:=Addr->Option SO
noncomputable def zS(S:ar)(a:Addr)(o:SO):ar:=fun b=>if b=a then some o else S b
def aa{S:ar}{a:Addr}{o:SO}:zS S a o a=some o:=by unfold zS;rw[if_pos rfl]
def aj{S:ar}{a b:Addr}{o:SO}(h:b≠a):zS S a o b=S b:=by unfold zS;rw[if_neg h]
inductive Af (K:Vo) (H:Hp) {κ:Type}:List (κ×V)->List (κ×PV)->Prop
 |nil:Af K H [] []
 |cons {k:κ} {v:V} {p:PV} {vs:List (κ×V)} {ps:List (κ×PV)}:Rep K H v p->Af K H vs ps->Af K H ((k,v)::vs) ((k,p)::ps)
theorem Af.mono{K:Vo}{H H':Hp}(g:Grow K H H'){κ:Type}:∀{vs:List (κ×V)} {ps:List (κ×PV)},Af K H vs ps->Af K H' vs ps
 |_,_,.nil=>.nil
 |_,_,.cons a r=>.cons (a.mono g) (Af.mono g r)
theorem Af.length{K:Vo}{H:Hp}{κ:Type}:∀{vs:List (κ×V)} {ps:List (κ×PV)},Af K H vs ps->vs.length=ps.length
 |_,_,.nil=>rfl
 |_,_,.cons _ r=>by rw[Ih,Ih,Af.length r]
noncomputable def Cv(K:Vo)(H:Hp)(a:Addr):SO->Prop
 | .lst xs=>∃vs,H a=some (.lst vs)/\Reps K H vs xs
 | .dct kvs=>∃kv,H a=some (.dK kv)/\Af K H kv kvs
 | .ins c fs=>∃C dx f',sn K c C/\H a=some (.ins C dx f')/\Af K H f' fs
theorem Cv.stay{K:Vo}{H H':Hp}(g:Grow K H H'){a:Addr}(e:H' a=H a):∀{o:SO},Cv K H a o->Cv K H' a o
 | .lst _,⟨vs,h,r⟩=>⟨vs,e.trans h,r.mono g⟩
 | .dct _,⟨vs,h,r⟩=>⟨vs,e.trans h,r.mono g⟩
 | .ins _ _,⟨C,dx,vs,n,h,r⟩=>⟨C,dx,vs,n,e.trans h,r.mono g⟩
theorem Cv.some{K:Vo}{H:Hp}{a:Addr}:∀{o:SO},Cv K H a o->∃u,H a=Option.some u/\Mu u
 | .lst _,⟨_,h,_⟩=>⟨_,h,trivial⟩
 | .dct _,⟨_,h,_⟩=>⟨_,h,trivial⟩
 | .ins _ _,⟨_,_,_,_,h,_⟩=>⟨_,h,trivial⟩
def zY(K:Vo)(H:Hp)(S:ar):Prop:=∀a o,S a=some o->Cv K H a o
def zY.free{K:Vo}{H:Hp}{S:ar}(r:zY K H S){p:Addr}(h:H p=none):S p=none:=by
 cases e:S p with
 |none=>rfl
 |some o=>
  obtain⟨u,q,_⟩:=(r p o e).some
  rw[h]at q;cases q
def zY.grow{K:Vo}{H H':Hp}{S:ar}(r:zY K H S)(h:∀c o,H c=some o->H' c=some o):zY K H' S:=fun a o e=>by
 obtain⟨u,q,_⟩:=(r a o e).some
 exact(r a o e).stay (.same h) ((h a u q).trans q.symm)
def zY.other{K:Vo}{H:Hp}{S:ar}(r:zY K H S){p:Addr}{o:HO}(h:H p=none):zY K (upd H p o) S:=r.grow fun c u q=>by rw[av (aM q h)];exact q
theorem zY.new{K:Vo}{H:Hp}{S:ar}(r:zY K H S){p:Addr}{u:HO}{o:SO}(h:H p=none)(q:Cv K (upd H p u) p o):zY K (upd H p u) (zS S p o):=fun a x e=>by
 by_cases z:a=p
 ·subst z;rw[aa]at e;cases e;exact q
 ·rw[aj z]at e;exact(r a x e).stay (.new h) (av z)
def zY.put{K:Vo}{H:Hp}{S:ar}(r:zY K H S){p:Addr}{u0 u:HO}{o:SO}(h:H p=some u0)(m:Mu u0)(q:Cv K (upd H p u) p o):zY K (upd H p u) (zS S p o):=fun a x e=>by
 by_cases z:a=p
 ·subst z;rw[aa]at e;cases e;exact q
 ·rw[aj z]at e;exact(r a x e).stay (.mut h m) (av z)
abbrev b5:=List (Option PV)
noncomputable def lk:b5->Nat->Option PV
 |[],_=>none
 |x::_,0=>x
 |_::r,i+1=>lk r i
def pP{σ:b5}{i:Nat}{p:PV}(h:lk σ i=some p):σ[i]?=some (some p):=by
 induction σ generalizing i with
 |nil=>cases h
 |cons x r ih=>
  cases i with
  |zero=>exact I9 some h
  |succ i=>exact ih h
structure zZ (K:Vo) (H:Hp) (σ:St) (σ3:b5):Prop where
 len:σ.length=σ3.length
 at':∀(i:Nat) (p:PV),σ3[i]?=some (some p)->∃v,σ[i]?=some (some v)/\Rep K H v p
theorem zZ.mono{K:Vo}{H H':Hp}{σ:St}{σ3:b5}(r:zZ K H σ σ3)(g:Grow K H H'):zZ K H' σ σ3:=⟨r.len,fun i p e=>let ⟨v,h,q⟩:=r.at' i p e;⟨v,h,q.mono g⟩⟩
theorem zZ.set{K:Vo}{H:Hp}{σ:St}{σ3:b5}(r:zZ K H σ σ3){v:V}{p:PV}(q:Rep K H v p)(i:Nat):zZ K H (σ.set i (some v)) (σ3.set i (some p)):=by
 refine⟨by rw[List.length_set,List.length_set,r.len],fun j x e=>?_⟩
 rw[List.getElem?_set]at e ⊢
 split at e
 ·rename_i hij
  rw[if_pos hij]
  subst hij
  split at e
  ·rename_i hl
   cases e
   rw[if_pos (by rw[r.len];exact hl)]
   exact⟨v,rfl,q⟩
  ·cases e
 ·rename_i hij
  rw[if_neg hij]
  exact r.at' j x e
abbrev bF:=PV->ar->Prop
abbrev cz:=PV->b5->ar->Prop
abbrev aO:=b5->ar->bF->cz->Prop
abbrev il:=b5->ar->(Bool->ar->Prop)->cz->Prop
abbrev zA:=b5->ar->(List PV->ar->Prop)->cz->Prop
structure ll where
 nx:b5->ar->Prop
 rt:bF
 ex:cz
 bk:b5->ar->Prop:=fun _ _=>False
 ct:b5->ar->Prop:=fun _ _=>False
abbrev bC:=ll->b5->ar->Prop
def C9(X:Cx)(H:Hp)(E:cz):Prop:=∀(c:Str) (ks:Vs) (ps:List PV) (σ3:b5) (S':ar) (H':Hp) (pins:Va) (σ:St) (s':Shared) (a C dx:Addr) (od:Obj) (vs:List V),E (.exc c ks ps) σ3 S'->sn X.K c C->vs.length=ks.length->
 H' dx=some (.frz od (.ext (XD dx (ks.zip vs))))->Reps X.K H' vs ps->zY X.K H' S'->zZ X.K H' σ σ3->Grow X.K H H'->Inv X pins σ H' s'->zz X pins H' s'.heap a C dx->X.xe (.ref a) s'
def C9.mono{X:Cx}{H H':Hp}{E:cz}(x:C9 X H E)(g:Grow X.K H H'):C9 X H' E:=fun c ks ps σ3 S' H2 pins σ s' a C dx od vs h1 h2 h3 h4 h5 h6 h7 h8 h9 G4=>x c ks ps σ3 S' H2 pins σ s' a C dx od vs h1 h2 h3 h4 h5 h6 h7 (g.trans h8) h9 G4
def C_(K:Vo)(H:Hp)(Q3:bF)(Q:VK):Prop:=∀p S' v H',Q3 p S'->Rep K H' v p->zY K H' S'->Grow K H H'->Q v H'
def C_.mono{K:Vo}{H H':Hp}{Q3:bF}{Q:VK}(r:C_ K H Q3 Q)(g:Grow K H H'):C_ K H' Q3 Q:=fun p S' v H2 h1 h2 h3 h4=>r p S' v H2 h1 h2 h3 (g.trans h4)
def EA(K:Vo)(H:Hp)(N3:b5->ar->Prop)(N:St->Hp->Prop):Prop:=∀σ3 S' σ H',N3 σ3 S'->zZ K H' σ σ3->zY K H' S'->Grow K H H'->N σ H'
def EA.mono{K:Vo}{H H':Hp}{Q3:b5->ar->Prop}{Q:St->Hp->Prop}(r:EA K H Q3 Q)(g:Grow K H H'):EA K H' Q3 Q:=fun p S' v H2 h1 h2 h3 h4=>r p S' v H2 h1 h2 h3 (g.trans h4)
inductive LE (X:Cx) (t:aO) (σ:L2.St) (H:Hp) (Q:VK):Prop
 |mk (σ3 S Q3 E3) (rσ:zZ X.K H σ σ3) (rS:zY X.K H S) (h:t σ3 S Q3 E3) (xo:C9 X H E3) (k:C_ X.K H Q3 Q):LE X t σ H Q
inductive LT (X:Cx) (t:il) (σ:L2.St) (H:Hp) (Q:Bool->Hp->Prop):Prop
 |mk (σ3 S Q3 E3) (rσ:zZ X.K H σ σ3) (rS:zY X.K H S) (h:t σ3 S Q3 E3) (xo:C9 X H E3) (k:∀b S' H',Q3 b S'->zY X.K H' S'->Grow X.K H H'->Q b H'):LT X t σ H Q
inductive LS (X:Cx) (t:bC) (D:lU) (σ:L2.St) (H:Hp):Prop
 |mk (σ3 S D3) (rσ:zZ X.K H σ σ3) (rS:zY X.K H S) (h:t D3 σ3 S) (xo:C9 X H D3.ex) (nx:EA X.K H D3.nx D.nx) (rt:C_ X.K H D3.rt D.rt) (bk:EA X.K H D3.bk D.bk) (ct:EA X.K H D3.ct D.ct):LS X t D σ H
structure aX (X:Cx) (e:Expr) (t:aO):Prop where
 ok:PE X e (LE X t)
structure l_ (X:Cx) (e:Expr) (t:il):Prop where
 ok:PT X e (LT X t)
structure ve (X:Cx) (e:Expr) (t:il):Prop where
 ok:PW X e (LT X t)
structure ma (X:Cx) (st:Stmt) (t:bC):Prop where
 ok:PS X st (LS X t)
structure gJ (X:Cx) (st:List Stmt) (t:bC):Prop where
 ok:Ct X st (LS X t)
def aH{X:Cx}{e:Expr}{t t':TE}(h:PE X e t)(k:∀σ H Q,t' σ H Q->t σ H Q):PE X e t':=fun pins s σ H Q I q=>h pins s σ H Q I (k σ H Q q)
def md{X:Cx}{e:Expr}{t t':TT}(h:PT X e t)(k:∀σ H Q,t' σ H Q->t σ H Q):PT X e t':=fun pins s σ H Q I q=>h pins s σ H Q I (k σ H Q q)
def pQ{X:Cx}{e:Expr}{t t':TT}(h:PW X e t)(k:∀σ H Q,t' σ H Q->t σ H Q):PW X e t':=fun wh pins s σ H Q I q=>h wh pins s σ H Q I (k σ H Q q)
def cE{X:Cx}{e:Stmt}{t t':TS}(h:PS X e t)(k:∀D σ H,t' D σ H->t D σ H):PS X e t':=fun pins s σ H D I q=>h pins s σ H D I (k D σ H q)
def mY{X:Cx}{e:List Stmt}{t t':TS}(h:Ct X e t)(k:∀D σ H,t' D σ H->t D σ H):Ct X e t':=fun pins s σ H D I q=>h pins s σ H D I (k D σ H q)
section
variable {X:Cx} {a b c e o:Expr} {es:List Expr} {ta tb tc te:aO} {pos:Pos}
def v3(i:Nat):aO:=fun σ S Q _=>match lk σ i with|some p=>Q p S|none=>False
def ae(i:Nat){x:Str}(hN:X.N[i]?=some x:=by rfl)(hv:xO X.env.scope x:=by first|exact Or.inl rfl|exact Or.inr (Or.inl rfl)|exact Or.inr (Or.inr rfl))(hd:(x == ("__debug__":Str))=false:=by decide)
  (hcd:(x == ("__classdict__":Str))=false:=by decide):aX X (.Name x pos) (v3 i):=
 ⟨aH (uc hN hv hd hcd) fun σ H Q ⟨σ3,S,Q3,E3,rσ,rS,h,xo,k⟩=>by
  unfold v3 at h
  split at h
  ·rename_i p e
   obtain⟨v,ev,rv⟩:=rσ.at' i p (pP e)
   exact⟨v,ev,k p S v H h rv rS .refl⟩
  ·exact h.elim⟩
def c3(p:PV):aO:=fun _ S Q _=>Q p S
def ac{i:Int}{j:Nat}:aX X (.Constant (.int i) j pos) (c3 (.int i)):=⟨aH ud fun σ H Q ⟨σ3,S,Q3,E3,rσ,rS,h,xo,k⟩=>k _ S _ H h (.int i) rS .refl⟩
def wU{i:Bool}{j:Nat}:aX X (.Constant (.bool i) j pos) (c3 (.bl i)):=⟨aH wa fun σ H Q ⟨σ3,S,Q3,E3,rσ,rS,h,xo,k⟩=>k _ S _ H h (.bl i) rS .refl⟩
def ao{i:Str}{j:Nat}:aX X (.Constant (.str i) j pos) (c3 (.str i)):=⟨aH uf fun σ H Q ⟨σ3,S,Q3,E3,rσ,rS,h,xo,k⟩=>k _ S _ H h (.str i) rS .refl⟩
def tR{j:Nat}:aX X (.Constant .none j pos) (c3 .non):=⟨aH ue fun σ H Q ⟨σ3,S,Q3,E3,rσ,rS,h,xo,k⟩=>k _ S _ H h .non rS .refl⟩
def yM{x:Str}{n:String}(hg:Gl X x)(hm:X.mg x=none)(hv:bootBuiltins x=some (.type n))(hn:x ≠ "__name__":=by decide)(hd:(x == ("__debug__":Str))=false:=by decide):aX X (.Name x pos) (c3 (.ty n)):=
 ⟨aH (rg (v:=.ty n) hg hm hv rfl hn hd) fun σ H Q ⟨σ3,S,Q3,E3,rσ,rS,h,xo,k⟩=>k _ S _ H h (.ty n) rS .refl⟩
noncomputable def ap:List aO->zA
 |[],_,S,Q,_=>Q [] S
 |t::ts,σ,S,Q,E=>t σ S (fun x S1=>ap ts σ S1 (fun xs S2=>Q (x::xs) S2) E) E
noncomputable def xV:List TE->TA
 |[]=>wE
 |t::ts=>tK t (xV ts)
structure iD (X:Cx) (es:List Expr) (ts:List aO):Prop where
 ok:PA X es (xV (ts.map (LE X)))
def cW:iD X [] []:=⟨uI⟩
def pR{ts:List aO}(hs:starEach (e::es) X.env=(false,eval e X.env)::starEach es X.env)(ha:aX X e te)(hr:iD X es ts):iD X (e::es) (te::ts):=⟨rJ ha.ok hr.ok hs⟩
theorem bL:∀{ts:List aO} {σ:L2.St} {H:Hp} {Q:List V->Hp->Prop} {σ3:b5} {S:ar} {Q3:List PV->ar->Prop} {E3:cz},zZ X.K H σ σ3->zY X.K H S->ap ts σ3 S Q3 E3->C9 X H E3->
  (∀ps S' vs H',ps.length=ts.length->Q3 ps S'->Reps X.K H' vs ps->zY X.K H' S'->Grow X.K H H'->Q vs H')->xV (ts.map (LE X)) σ H Q
 |[],σ,H,Q,σ3,S,Q3,E3,rσ,rS,h,xo,k=>k [] S [] H rfl h .nil rS .refl
 |t::ts,σ,H,Q,σ3,S,Q3,E3,rσ,rS,h,xo,k=>
  ⟨σ3,S,_,E3,rσ,rS,h,xo,fun p S1 v H1 h1 rv z0 g1=>bL (rσ.mono g1) z0 h1 (xo.mono g1) fun ps S2 vs H2 hl h2 FJ Bn g2=>k (p::ps) S2 (v::vs) H2 (by rw[Ih,Ih,hl]) h2 (.cons (rv.mono g2) FJ) Bn (g1.trans g2)⟩
def aB(ts:List aO):aO:=fun σ S Q E=>ap ts σ S (fun xs S1=>Q (.tup xs) S1) E
def aC{ts:List aO}{x1:Nat}(h:iD X es ts)(hn:ts.length<=1000:=by exact K5 rfl):aX X (.Tuple es x1 pos) (aB ts):=
 ⟨aH (uJ h.ok) fun σ H Q ⟨σ3,S,Q3,E3,rσ,rS,hq,xo,k⟩=>bL rσ rS hq xo fun ps S' vs H' hl q rv By g=>
  ⟨KQ (du (by rw[rv.length,hl];exact hn)),fun p hp=>k _ S' _ _ q (.tup (SqT.of ax) (rv.mono (.new hp))) (By.other hp) (g.trans (.new hp))⟩⟩
def bm(ts:List aO):aO:=fun σ S Q E=>ap ts σ S (fun xs S1=>∀p,S1 p=none->Q (.ref p) (zS S1 p (.lst xs))) E
def bh{ts:List aO}(h:iD X es ts)(hn:ts.length<=1000:=by exact K5 rfl):aX X (.List es pos) (bm ts):=
 ⟨aH (uK h.ok) fun σ H Q ⟨σ3,S,Q3,E3,rσ,rS,hq,xo,k⟩=>bL rσ rS hq xo fun ps S' vs H' hl q rv By g=>
  ⟨KQ (du (by rw[rv.length,hl];exact hn)),fun p hp=>k _ _ _ _ (q p (By.free hp)) (.ref p) (By.new hp ⟨vs,ax,rv.mono (.new hp)⟩) (g.trans (.new hp))⟩⟩
abbrev R3:=PV->PV->ar->bF->Prop
inductive LR (X:Cx) (r:R3) (x y:V) (H:Hp) (Q:VK):Prop
 |mk (px py S Q3) (rx:Rep X.K H x px) (ry:Rep X.K H y py) (rS:zY X.K H S) (h:r px py S Q3) (k:C_ X.K H Q3 Q):LR X r x y H Q
structure gK (X:Cx) (f:Value->Value->Sem Value) (r:R3):Prop where
 ok:fW X f (LR X r)
def ah(r:R3)(ta tb:aO):aO:=fun σ S Q E=>ta σ S (fun x S1=>tb σ S1 (fun y S2=>r x y S2 Q) E) E
def iL{r:R3}{σ:L2.St}{H:Hp}{Q:VK}:LE X (ah r ta tb) σ H Q->wu (LR X r) (LE X ta) (LE X tb) σ H Q:=fun⟨σ3,S,Q3,E3,rσ,rS,h,xo,k⟩=>
 ⟨σ3,S,_,E3,rσ,rS,h,xo,fun x S1 v H1 h1 rx z0 g1=>⟨σ3,S1,_,E3,rσ.mono g1,z0,h1,xo.mono g1,fun y S2 u H2 h2 ry Bn g2=>⟨x,y,S2,Q3,rx.mono g2,ry,Bn,h2,k.mono (g1.trans g2)⟩⟩⟩
def aE{op:Operator}{r:R3}(ho:gK X (binaryOp op) r)(ha:aX X a ta)(hb:aX X b tb):aX X (.BinOp a op b pos) (ah r ta tb):=⟨aH (wv ho.ok ha.ok hb.ok) fun _ _ _=>iL⟩
def fo{op:CmpOp}{r:R3}(ho:gK X (compareOp op) r)(ha:aX X a ta)(hb:aX X b tb)(hm:behindInMarks op b=false):aX X (.Compare a [op] [b] pos) (ah r ta tb):=⟨aH (rG ho.ok ha.ok hb.ok hm) fun _ _ _=>iL⟩
def aU(t:aO):il:=fun σ S Q E=>t σ S (fun v S'=>match v with | .bl k=>Q k S'|_=>False) E
def pS{σ:L2.St}{H:Hp}{Q:Bool->Hp->Prop}:LT X (aU te) σ H Q->LE X te σ H (fun x H'=>∃k,x = .bl k/\Q k H'):=fun⟨σ3,S,Q3,E3,rσ,rS,h,xo,k⟩=>
 ⟨σ3,S,_,E3,rσ,rS,h,xo,fun p S' v H' h1 rv By g=>by
  cases p with
  |bl z=>cases rv;exact⟨z,rfl,k z S' H' h1 By g⟩
  |_=>exact h1.elim⟩
def bi{op:CmpOp}{r:R3}(ho:gK X (compareOp op) r)(ha:aX X a ta)(hb:aX X b tb)(hm:behindInMarks op b=false):l_ X (.Compare a [op] [b] pos) (aU (ah r ta tb)):=
 ⟨md (rH ho.ok ha.ok hb.ok hm) fun σ H Q ⟨σ3,S,Q3,E3,rσ,rS,h,xo,k⟩=>iL ⟨σ3,S,_,E3,rσ,rS,h,xo,fun p S' v H' h1 rv By g=>by
  cases p with
  |bl z=>cases rv;exact⟨z,rfl,k z S' H' h1 By g⟩
  |_=>exact h1.elim⟩⟩
def j0(h:aX X e te)(he:∀whole,isTrue e X.env whole=(do let v <-whole;standAt e.pos;holding [v] (truthy v)):=by intro _;rfl):l_ X e (aU te):=
 ⟨md (ug h.ok he) fun σ H Q q=>pS q⟩
end
section
variable {X:Cx} {a b c:Expr} {rest:List Expr} {ta tb te:aO} {tA tB:il} {pos:Pos}
def jF(t u:il):il:=fun σ S Q E=>t σ S (fun c S1=>if c=true then u σ S1 Q E else Q false S1) E
def lm(t u:il):il:=fun σ S Q E=>t σ S (fun c S1=>if c=true then Q true S1 else u σ S1 Q E) E
def pU(t:il):il:=fun σ S Q E=>t σ S (fun c S1=>Q (!c) S1) E
def me(ha:l_ X a tA):ve X (.BoolOp .And [a] pos) tA:=⟨rh ha.ok⟩
def im(ha:l_ X a tA):ve X (.BoolOp .Or [a] pos) tA:=⟨uh ha.ok⟩
def mZ(ha:l_ X a tA)(hb:ve X (.BoolOp .And (b::rest) pos) tB):ve X (.BoolOp .And (a::b::rest) pos) (jF tA tB):=
 ⟨pQ (uk ha.ok hb.ok) fun σ H Q ⟨σ3,S,Q3,E3,rσ,rS,h,xo,k⟩=>⟨σ3,S,_,E3,rσ,rS,h,xo,fun c S1 H1 h1 z0 g1=>by
  cases c with
  |true=>rw[if_pos rfl]at h1 ⊢;exact⟨σ3,S1,Q3,E3,rσ.mono g1,z0,h1,xo.mono g1,fun b S2 H2 h2 Bn g2=>k b S2 H2 h2 Bn (g1.trans g2)⟩
  |false=>rw[if_neg (by decide)]at h1 ⊢;exact k false S1 H1 h1 z0 g1⟩⟩
def kH(ha:l_ X a tA)(hb:ve X (.BoolOp .Or (b::rest) pos) tB):ve X (.BoolOp .Or (a::b::rest) pos) (lm tA tB):=
 ⟨pQ (wb ha.ok hb.ok) fun σ H Q ⟨σ3,S,Q3,E3,rσ,rS,h,xo,k⟩=>⟨σ3,S,_,E3,rσ,rS,h,xo,fun c S1 H1 h1 z0 g1=>by
  cases c with
  |true=>rw[if_pos rfl]at h1 ⊢;exact k true S1 H1 h1 z0 g1
  |false=>rw[if_neg (by decide)]at h1 ⊢;exact⟨σ3,S1,Q3,E3,rσ.mono g1,z0,h1,xo.mono g1,fun b S2 H2 h2 Bn g2=>k b S2 H2 h2 Bn (g1.trans g2)⟩⟩⟩
def pV(h:ve X a tA):l_ X a tA:=⟨h.ok.pt⟩
def wV(ha:l_ X a tA):l_ X (.UnaryOp .Not a pos) (pU tA):=
 ⟨md (ul ha.ok) fun σ H Q ⟨σ3,S,Q3,E3,rσ,rS,h,xo,k⟩=>⟨σ3,S,_,E3,rσ,rS,h,xo,fun c S1 H1 h1 z0 g1=>k (!c) S1 H1 h1 z0 g1⟩⟩
def bD(t u:aO):aO:=fun σ S Q E=>t σ S (fun v S1=>match v with | .bl c=>if c=true then u σ S1 Q E else Q (.bl false) S1|_=>False) E
def jG(t u:aO):aO:=fun σ S Q E=>t σ S (fun v S1=>match v with | .bl c=>if c=true then Q (.bl true) S1 else u σ S1 Q E|_=>False) E
def j1(t:aO):aO:=fun σ S Q E=>t σ S (fun v S1=>match v with | .bl c=>Q (.bl (!c)) S1|_=>False) E
def j2{op:BoolOp}(h:aX X a ta):aX X (.BoolOp op [a] pos) ta:=⟨um h.ok⟩
def j3(ha:aX X a ta)(hb:aX X (.BoolOp .And (b::rest) pos) tb):aX X (.BoolOp .And (a::b::rest) pos) (bD ta tb):=
 ⟨aH (uo ha.ok hb.ok) fun σ H Q ⟨σ3,S,Q3,E3,rσ,rS,h,xo,k⟩=>⟨σ3,S,_,E3,rσ,rS,h,xo,fun p S1 v H1 h1 rv z0 g1=>by
  cases p with
  |bl z=>
   cases rv
   refine⟨z,rfl,?_⟩
   cases z with
   |true=>rw[if_pos rfl];exact⟨σ3,S1,Q3,E3,rσ.mono g1,z0,h1,xo.mono g1,k.mono g1⟩
   |false=>rw[if_neg (by decide)];exact k _ S1 _ H1 h1 (.bl false) z0 g1
  |_=>exact h1.elim⟩⟩
def yN(ha:aX X a ta)(hb:aX X (.BoolOp .Or (b::rest) pos) tb):aX X (.BoolOp .Or (a::b::rest) pos) (jG ta tb):=
 ⟨aH (wg ha.ok hb.ok) fun σ H Q ⟨σ3,S,Q3,E3,rσ,rS,h,xo,k⟩=>⟨σ3,S,_,E3,rσ,rS,h,xo,fun p S1 v H1 h1 rv z0 g1=>by
  cases p with
  |bl z=>
   cases rv
   refine⟨z,rfl,?_⟩
   cases z with
   |true=>rw[if_pos rfl];exact k _ S1 _ H1 h1 (.bl true) z0 g1
   |false=>rw[if_neg (by decide)];exact⟨σ3,S1,Q3,E3,rσ.mono g1,z0,h1,xo.mono g1,k.mono g1⟩
  |_=>exact h1.elim⟩⟩
def wW(ha:aX X a ta):aX X (.UnaryOp .Not a pos) (j1 ta):=
 ⟨aH (uq ha.ok) fun σ H Q ⟨σ3,S,Q3,E3,rσ,rS,h,xo,k⟩=>⟨σ3,S,_,E3,rσ,rS,h,xo,fun p S1 v H1 h1 rv z0 g1=>by
  cases p with
  |bl z=>cases rv;exact⟨z,rfl,k _ S1 _ H1 h1 (.bl _) z0 g1⟩
  |_=>exact h1.elim⟩⟩
def n5(t:il)(ta tb:aO):aO:=fun σ S Q E=>t σ S (fun c S1=>if c=true then ta σ S1 Q E else tb σ S1 Q E) E
def tS(hc:l_ X c tA)(ha:aX X a ta)(hb:aX X b tb):aX X (.IfExp c a b pos) (n5 tA ta tb):=
 ⟨aH (oM hc.ok ha.ok hb.ok) fun σ H Q ⟨σ3,S,Q3,E3,rσ,rS,h,xo,k⟩=>⟨σ3,S,_,E3,rσ,rS,h,xo,fun c S1 H1 h1 z0 g1=>by
  cases c with
  |true=>rw[if_pos rfl]at h1 ⊢;exact⟨σ3,S1,Q3,E3,rσ.mono g1,z0,h1,xo.mono g1,k.mono g1⟩
  |false=>rw[if_neg (by decide)]at h1 ⊢;exact⟨σ3,S1,Q3,E3,rσ.mono g1,z0,h1,xo.mono g1,k.mono g1⟩⟩⟩
abbrev wX:=PV->ar->bF->Prop
noncomputable def zB(X:Cx)(r:wX):V->Hp->VK->Prop:=fun x H Q=>∃px S Q3,Rep X.K H x px/\zY X.K H S/\r px S Q3/\C_ X.K H Q3 Q
structure zm (X:Cx) (f:Value->Sem Value) (r:wX):Prop where
 ok:xR X f (zB X r)
def fz(r:wX)(ta:aO):aO:=fun σ S Q E=>ta σ S (fun x S1=>r x S1 Q) E
def fA{op:UnaryOp}{r:wX}(ho:zm X (unaryOp op) r)(ha:aX X a ta):aX X (.UnaryOp op a pos) (fz r ta):=
 ⟨aH (ww ho.ok ha.ok) fun σ H Q ⟨σ3,S,Q3,E3,rσ,rS,h,xo,k⟩=>⟨σ3,S,_,E3,rσ,rS,h,xo,fun p S1 v H1 h1 rv z0 g1=>⟨p,S1,Q3,rv,z0,h1,k.mono g1⟩⟩⟩
noncomputable def bI:wX:=fun x S Q=>match x with | .int i=>Q (.int (-i)) S|_=>False
def bJ:zm X (unaryOp .USub) bI:=⟨fun pins s σ H x v Q I rx ⟨px,S,Q3,r1,rS,h,k⟩=>by
 cases px with
 |int i=>cases r1;exact uH pins s σ H _ v Q I rx ⟨i,rfl,k _ S _ H h (.int _) rS .refl⟩
 |_=>exact h.elim⟩
end
section
variable {X:Cx}
def dF(g:Int->Int->PV):R3:=fun x y S Q=>match x,y with | .int i,.int j=>Q (g i j) S|_,_=>False
def fq(C:Int->Int->Prop)(g:Int->Int->PV):R3:=fun x y S Q=>match x,y with | .int i,.int j=>C i j/\Q (g i j) S|_,_=>False
def vf{f:Value->Value->Sem Value}{g:Int->Int->Int}(h:fW X f (rD fun i j=>.int (g i j))):gK X f (dF fun i j=>.int (g i j)):=⟨fun pins s σ H x y v u Q I rx ry ⟨px,py,S,Q3,r1,r2,rS,q,k⟩=>by
 cases px with
 |int i=>
  cases py with
  |int j=>cases r1;cases r2;exact h pins s σ H _ _ v u Q I rx ry ⟨i,j,rfl,rfl,k _ S _ H q (.int _) rS .refl⟩
  |_=>exact q.elim
 |_=>exact q.elim⟩
def kI{f:Value->Value->Sem Value}{g:Int->Int->Bool}(h:fW X f (rD fun i j=>.bl (g i j))):gK X f (dF fun i j=>.bl (g i j)):=⟨fun pins s σ H x y v u Q I rx ry ⟨px,py,S,Q3,r1,r2,rS,q,k⟩=>by
 cases px with
 |int i=>
  cases py with
  |int j=>cases r1;cases r2;exact h pins s σ H _ _ v u Q I rx ry ⟨i,j,rfl,rfl,k _ S _ H q (.bl _) rS .refl⟩
  |_=>exact q.elim
 |_=>exact q.elim⟩
def kJ{f:Value->Value->Sem Value}{C:Int->Int->Prop}{g:Int->Int->Int}(h:fW X f (rI C fun i j=>.int (g i j))):gK X f (fq C fun i j=>.int (g i j)):=⟨fun pins s σ H x y v u Q I rx ry ⟨px,py,S,Q3,r1,r2,rS,q,k⟩=>by
 cases px with
 |int i=>
  cases py with
  |int j=>cases r1;cases r2;exact h pins s σ H _ _ v u Q I rx ry ⟨i,j,rfl,rfl,q.1,k _ S _ H q.2 (.int _) rS .refl⟩
  |_=>exact q.elim
 |_=>exact q.elim⟩
def lp(i j:Int):Prop:=j≠0/\j.natAbs < 2 ^ 8000
def mf{n:Nat}(h:n < 2 ^ 8000):n.log2 < 9000:=by
 by_cases z:n=0
 ·rw[z];decide +kernel
 ·exact Lx ((Nat.log2_lt z).mpr h) (by decide)
def vg:gK X (binaryOp .Sub) (dF fun i j=>.int (i - j)):=vf uF
def vh:gK X (binaryOp .Mod) (fq (fun _ j=>j≠0) fun i j=>.int (i.fmod j)):=kJ rE
def sr:gK X (binaryOp .FloorDiv) (fq lp fun i j=>.int (i.fdiv j)):=kJ (xS fun _ _ _ _ _ _ _ hc q=>PyProof.Rows.floordiv_int hc.1 q (.inl (PyProof.noPylong_of_log2 (mf hc.2))))
def vi:gK X (binaryOp .Pow) (fq uD fun i j=>.int (i ^ j.toNat)):=kJ uG
def wY:gK X (compareOp .Lt) (dF fun i j=>.bl (decide (i < j))):=kI wA
def wZ:gK X (compareOp .Gt) (dF fun i j=>.bl (decide (j < i))):=kI wB
def w4:gK X (compareOp .GtE) (dF fun i j=>.bl (decide (j<=i))):=kI wC
end
end L3
namespace L2
open PySem PySem.Spec PyProof.Rows
section
variable {X:Cx}
def w5(K:Vo):R2:=fun x y H Q=>∃a b xs ys,x = .ref a/\y = .ref b/\SqT K H a xs/\SqT K H b ys/\xs.length+ys.length<=sizeLine/\∀r H',(∀c o,H c=some o->H' c=some o)->SqT K H' r (xs++ys)->Q (.ref r) H'
def ss:fW X (binaryOp .Add) (w5 X.K):=by
 intro pins s σ H x y v u Q I rx ry h
 obtain⟨a,b,xs,ys,rfl,rfl,ha,hb,hz,q⟩:=h
 by_cases hx:xs=[]
 ·subst hx
  cases rx
  cases ry
  obtain⟨its,r1,p1,_⟩:=I.tuple ha
  obtain⟨its2,r2,p2,_⟩:=I.tuple hb
  cases r1
  obtain⟨⟨cls,dd,data,sl⟩,ho,hc,n,hd⟩:=id p1
  obtain⟨⟨Fw,dd2,data2,sl2⟩,ho2,hc2,n2,hd2⟩:=id p2
  simp only at hc hd hc2 hd2
  subst hc hd hc2 hd2
  exact concat_meets ⟨_,ho,rfl⟩ ⟨_,ho2,rfl⟩ noFill_tuple_add seq_tuple_add KS KO (Ky _ _)
   (tuple_addW0 a b _ its2.toArray n n2 dd dd2 sl sl2 rfl) ⟨ho,ho2,⟨.ref b,H,I,rfl,q b H (fun _ _ e=>e) hb⟩⟩
 ·exact rP pins s σ H _ _ v u Q I rx ry ⟨a,b,xs,ys,rfl,rfl,ha,hb,hx,hz,fun e=>q a H (fun _ _ e=>e) (by rw[e,Iw];exact ha),
   fun _ p hp=>q p _ (fun c o e=>by rw[av (aM e hp)];exact e) (SqT.of ax)⟩
end
end L2
namespace L3
open PySem L2
section
variable {X:Cx}
def aP:R3:=fun x y S Q=>match x,y with
 | .int i,.int j=>Q (.int (i+j)) S
 | .str i,.str j=>i.length+j.length<=sizeLine/\Q (.str (i++j)) S
 | .tup i,.tup j=>i.length+j.length<=sizeLine/\Q (.tup (i++j)) S
 | .ref i,.ref j=>match S i,S j with
  |some (.lst xs),some (.lst ys)=>xs.length+ys.length<=sizeLine/\∀p,S p=none->Q (.ref p) (zS S p (.lst (xs++ys)))
  |_,_=>False
 |_,_=>False
def aD:gK X (binaryOp .Add) aP:=⟨fun pins s σ H x y v u Q I rx ry ⟨px,py,S,Q3,r1,r2,rS,q,k⟩=>by
 unfold aP at q
 split at q
 ·cases r1;cases r2
  exact uE pins s σ H _ _ v u Q I rx ry ⟨_,_,rfl,rfl,k _ S _ H q (.int _) rS .refl⟩
 ·cases r1;cases r2
  exact lX pins s σ H _ _ v u Q I rx ry ⟨_,_,rfl,rfl,q.1,k _ S _ H q.2 (.str _) rS .refl⟩
 ·cases r1 with
  |tup h1 s1=>
   cases r2 with
   |tup h2 s2=>
    refine ss pins s σ H _ _ v u Q I rx ry ⟨_,_,_,_,rfl,rfl,h1,h2,by rw[s1.length,s2.length];exact q.1,fun r H' hs hr=>?_⟩
    exact k _ S _ H' q.2 (.tup hr ((s1.mono (.same hs)).append (s2.mono (.same hs)))) (rS.grow hs) (.same hs)
 ·cases r1;cases r2
  split at q
  ·rename_i i j xs ys e1 e2
   obtain⟨vs,h1,s1⟩:=rS _ _ e1
   obtain⟨us,h2,s2⟩:=rS _ _ e2
   exact uU pins s σ H _ _ v u Q I rx ry ⟨_,_,_,_,rfl,rfl,h1,h2,by rw[s1.length,s2.length];exact q.1,fun p hp=>k _ _ _ _ (q.2 p (rS.free hp)) (.ref p) (rS.new hp ⟨_,ax,(s1.append s2).mono (.new hp)⟩) (.new hp)⟩
  ·exact q.elim
 ·exact q.elim⟩
end
mutual
inductive Dat (S:ar):PV->PyData->Prop
 |non:Dat S .non .none
 |bl (b:Bool):Dat S (.bl b) (.bool b)
 |int (i:Int):Dat S (.int i) (.int i)
 |str (x:Str):Dat S (.str x) (.str x)
 |tup {ps:List PV} {ds:List PyData}:BB S ps ds->Dat S (.tup ps) (.tuple ds)
 |cl {ps:List PV} {ds:List PyData}:BB S ps ds->Dat S (.cl ps) (.list ds)
 |ref {a:Addr} {ps:List PV} {ds:List PyData}:S a=some (.lst ps)->BB S ps ds->Dat S (.ref a) (.list ds)
inductive BB (S:ar):List PV->List PyData->Prop
 |nil:BB S [] []
 |cons {p:PV} {d:PyData} {ps:List PV} {ds:List PyData}:Dat S p d->BB S ps ds->BB S (p::ps) (d::ds)
end
section
variable {X:Cx} {pins:Va} {σ:L2.St} {H:Hp} {s:Shared} {S:ar}
def mh(I:Inv X pins σ H s)(rS:zY X.K H S):(∀{p:PV} {d:PyData},Dat S p d->∀{v:V} {u:Value},Rep X.K H v p->RelV v u->∃as,Reads s.heap u d as)/\∀{ps:List PV} {ds:List PyData},BB S ps ds->∀{vs:List V} {us:Vv},Reps X.K H vs ps->Vals vs us->∃as,ReadsAll s.heap us ds as:=by
 have one:=@Dat.rec S (motive_1:=fun p d _=>∀{v:V} {u:Value},Rep X.K H v p->RelV v u->∃as,Reads s.heap u d as) (motive_2:=fun ps ds _=>∀{vs:List V} {us:Vv},Reps X.K H vs ps->Vals vs us->∃as,ReadsAll s.heap us ds as)
 have two:=@BB.rec S (motive_1:=fun p d _=>∀{v:V} {u:Value},Rep X.K H v p->RelV v u->∃as,Reads s.heap u d as) (motive_2:=fun ps ds _=>∀{vs:List V} {us:Vv},Reps X.K H vs ps->Vals vs us->∃as,ReadsAll s.heap us ds as)
 have c1:∀{v:V} {u:Value},Rep X.K H v .non->RelV v u->∃as,Reads s.heap u .none as:=fun h r=>by cases h;cases r;exact⟨_,.none⟩
 have c2:∀(b:Bool) {v:V} {u:Value},Rep X.K H v (.bl b)->RelV v u->∃as,Reads s.heap u (.bool b) as:=fun b _ _ h r=>by cases h;cases r;exact⟨_,.bool b⟩
 have c3:∀(i:Int) {v:V} {u:Value},Rep X.K H v (.int i)->RelV v u->∃as,Reads s.heap u (.int i) as:=fun i _ _ h r=>by cases h;obtain⟨t,rfl⟩:=r;exact⟨_,.int i t⟩
 have c4:∀(x:Str) {v:V} {u:Value},Rep X.K H v (.str x)->RelV v u->∃as,Reads s.heap u (.str x) as:=fun x _ _ h r=>by cases h;obtain⟨t,rfl⟩:=r;exact⟨_,.str x t⟩
 have c5:∀{ps:List PV} {ds:List PyData},BB S ps ds->(∀{vs:List V} {us:Vv},Reps X.K H vs ps->Vals vs us->∃as,ReadsAll s.heap us ds as)->∀{v:V} {u:Value},Rep X.K H v (.tup ps)->RelV v u->∃as,Reads s.heap u (.tuple ds) as:=fun _ ih _ _ h r=>by
  cases h with
  |tup h rs=>
   cases r
   obtain⟨its,rv,⟨o,ho,hc,n,hd⟩,hz⟩:=I.tuple h
   obtain⟨as,q⟩:=ih rs rv
   exact⟨as,.tuple ho hc hd (by simpa using q)⟩
 have c6:∀{ps:List PV} {ds:List PyData},BB S ps ds->(∀{vs:List V} {us:Vv},Reps X.K H vs ps->Vals vs us->∃as,ReadsAll s.heap us ds as)->∀{v:V} {u:Value},Rep X.K H v (.cl ps)->RelV v u->∃as,Reads s.heap u (.list ds) as:=fun _ ih _ _ h r=>by
  cases h with
  |cl h rs=>
   cases r
   obtain⟨its,rv,⟨o,n,ho,hc,_,hd⟩,hz⟩:=I.list h.sq
   obtain⟨as,q⟩:=ih rs rv
   exact⟨_,.list ho hc hd (by simpa using q)⟩
 have c7:∀{a:Addr} {ps:List PV} {ds:List PyData},S a=some (.lst ps)->BB S ps ds->(∀{vs:List V} {us:Vv},Reps X.K H vs ps->Vals vs us->∃as,ReadsAll s.heap us ds as)->∀{v:V} {u:Value},Rep X.K H v (.ref a)->RelV v u->∃as,Reads s.heap u (.list ds) as:=fun e _ ih _ _ h r=>by
  cases h
  cases r
  obtain⟨vs,hv,rs⟩:=rS _ _ e
  obtain⟨its,rv,⟨o,n,ho,hc,_,hd⟩,hz⟩:=I.list (SqL.of hv)
  obtain⟨as,q⟩:=ih rs rv
  exact⟨_,.list ho hc hd (by simpa using q)⟩
 have c8:∀{vs:List V} {us:Vv},Reps X.K H vs []->Vals vs us->∃as,ReadsAll s.heap us [] as:=fun h r=>by cases h;cases r;exact⟨_,.nil⟩
 have c9:∀{p:PV} {d:PyData} {ps:List PV} {ds:List PyData},Dat S p d->BB S ps ds->(∀{v:V} {u:Value},Rep X.K H v p->RelV v u->∃as,Reads s.heap u d as)->(∀{vs:List V} {us:Vv},Reps X.K H vs ps->Vals vs us->∃as,ReadsAll s.heap us ds as)->∀{vs:List V} {us:Vv},Reps X.K H vs (p::ps)->Vals vs us->∃as,ReadsAll s.heap us (d::ds) as:=fun _ _ i1 i2 _ _ h r=>by
  cases h with
  |cons a rs=>
   cases r with
   |cons r1 r2=>
    obtain⟨as,q⟩:=i1 a r1
    obtain⟨bs,q2⟩:=i2 rs r2
    exact⟨_,.cons q q2⟩
 exact⟨fun h=>one c1 c2 c3 c4 c5 c6 c7 c8 c9 h,fun h=>two c1 c2 c3 c4 c5 c6 c7 c8 c9 h⟩
def Dat.reads(I:Inv X pins σ H s)(rS:zY X.K H S){p:PV}{d:PyData}{v:V}{u:Value}(h:Dat S p d)(r:Rep X.K H v p)(r2:RelV v u):∃as,Reads s.heap u d as:=(mh I rS).1 h r r2
end
section
variable {X:Cx}
def bg(neg:Bool):R3:=fun x y S Q=>match x,y with
 | .int i,.int j=>Q (.bl (neg != decide (i=j))) S
 | .str i,.str j=>Q (.bl (neg != decide (i=j))) S
 | .bl i,.bl j=>Q (.bl (neg != decide (i=j))) S
 |x,y=>∃d d',Dat S x d/\Dat S y d'/\d.canLay0=true/\d'.canLay0=true/\min d.depth d'.depth<=150/\Q (.bl (neg != PyData.eqv d d')) S
def i4(hu:X.A.units+150 < cLine):gK X (compareOp .Eq) (bg false):=⟨fun pins s σ H x y v u Q I rx ry ⟨px,py,S,Q3,r1,r2,rS,q,k⟩=>by
 unfold bg at q
 split at q
 ·cases r1;cases r2
  exact oU pins s σ H _ _ v u Q I rx ry ⟨rfl,k _ S _ H (by simpa using q) (.bl _) rS .refl⟩
 ·cases r1;cases r2
  exact oU pins s σ H _ _ v u Q I rx ry ⟨rfl,k _ S _ H (by simpa using q) (.bl _) rS .refl⟩
 ·cases r1;cases r2
  exact oU pins s σ H _ _ v u Q I rx ry ⟨rfl,k _ S _ H (by simpa using q) (.bl _) rS .refl⟩
 ·obtain⟨d,d',h1,h2,c1,c2,hd,q⟩:=q
  obtain⟨as,a1⟩:=h1.reads I rS r1 rx
  obtain⟨bs,a2⟩:=h2.reads I rS r2 ry
  exact SeqAt.compareEq_reads a1 a2 c1 c2 (by omega) ⟨.bl _,H,I,rfl,k _ S _ H (by simpa using q) (.bl _) rS .refl⟩⟩
def tT(hu:X.A.units+150 < cLine):gK X (compareOp .NotEq) (bg true):=⟨fun pins s σ H x y v u Q I rx ry ⟨px,py,S,Q3,r1,r2,rS,q,k⟩=>by
 unfold bg at q
 split at q
 ·cases r1;cases r2
  exact oV pins s σ H _ _ v u Q I rx ry ⟨rfl,k _ S _ H (by simpa using q) (.bl _) rS .refl⟩
 ·cases r1;cases r2
  exact oV pins s σ H _ _ v u Q I rx ry ⟨rfl,k _ S _ H (by simpa using q) (.bl _) rS .refl⟩
 ·cases r1;cases r2
  exact oV pins s σ H _ _ v u Q I rx ry ⟨rfl,k _ S _ H (by simpa using q) (.bl _) rS .refl⟩
 ·obtain⟨d,d',h1,h2,c1,c2,hd,q⟩:=q
  obtain⟨as,a1⟩:=h1.reads I rS r1 rx
  obtain⟨bs,a2⟩:=h2.reads I rS r2 ry
  exact SeqAt.compareNe_reads a1 a2 c1 c2 (by omega) ⟨.bl _,H,I,rfl,k _ S _ H (by simpa using q) (.bl _) rS .refl⟩⟩
def tU(neg:Bool):R3:=fun x y S Q=>match y with
 | .non=>Q (.bl (neg != match x with | .non=>true|_=>false)) S
 | .bl true=>match x with | .bl true=>Q (.bl (neg != true)) S|_=>False
 |_=>False
def pW:gK X (compareOp .IsNot) (tU true):=⟨fun pins s σ H x y v u Q I rx ry ⟨px,py,S,Q3,r1,r2,rS,q,k⟩=>by
 unfold tU at q
 split at q
 ·cases r2
  refine rF pins s σ H _ _ v u Q I rx ry ⟨rfl,?_⟩
  cases r1<;>exact k _ S _ H (by simpa using q) (.bl _) rS .refl
 ·cases r2
  split at q
  ·cases r1
   exact nY pins s σ H _ _ v u Q I rx ry ⟨rfl,rfl,k _ S _ H (by simpa using q) (.bl _) rS .refl⟩
  ·exact q.elim
 ·exact q.elim⟩
noncomputable def iE(S:ar):PV->Option (List PV)
 | .tup xs=>some xs
 | .cl xs=>some xs
 | .ref a=>match S a with|some (.lst xs)=>some xs|_=>none
 |_=>none
def vj{H:Hp}{S:ar}{v:V}{p:PV}{xs:List PV}(rS:zY X.K H S)(r:Rep X.K H v p)(h:iE S p=some xs):∃a vs,v = .ref a/\(SqL X.K H a vs\/SqT X.K H a vs)/\Reps X.K H vs xs:=by
 unfold iE at h
 split at h
 ·cases h;cases r with|tup h1 rs=>exact⟨_,_,rfl,.inr h1,rs⟩
 ·cases h;cases r with|cl h1 rs=>exact⟨_,_,rfl,.inl h1.sq,rs⟩
 ·cases r
  split at h
  ·rename_i e
   cases h
   obtain⟨vs,hv,rs⟩:=rS _ _ e
   exact⟨_,vs,rfl,.inl (SqL.of hv),rs⟩
  ·cases h
 ·cases h
noncomputable def io(x:PyData)(xs:List PyData):Bool:=xs.any fun y=>PyData.eqv y x
def iM(neg:Bool):R3:=fun x y S Q=>match x,y with
 | .str i,.str j=>Q (.bl (neg != !(Builtin.Str.occurrences j i 0 j.length 1).isEmpty)) S
 |x,y=>match y with
  | .ref a=>match S a with
   |some (.lst xs)=>∃d ds,Dat S x d/\BB S xs ds/\d.canLay0=true/\PyData.canLayAll0 ds=true/\d.depth<=150/\Q (.bl (neg != io d ds)) S
   |some (.dct kvs)=>match x with
    | .str z=>Q (.bl (neg != (kvs.any fun kv=>decide (kv.1=Sum.inr z)))) S
    | .int z=>Q (.bl (neg != (kvs.any fun kv=>decide (kv.1=Sum.inl z)))) S
    |_=>False
   |_=>False
  | .tup xs=>∃d ds,Dat S x d/\BB S xs ds/\d.canLay0=true/\PyData.canLayAll0 ds=true/\d.depth<=150/\Q (.bl (neg != io d ds)) S
  |_=>False
theorem Af.any{K:Vo}{H:Hp}{κ:Type} [DecidableEq κ](k:κ):∀{vs:List (κ×V)} {ps:List (κ×PV)},Af K H vs ps->(fg vs k).isSome=ps.any fun kv=>decide (kv.1=k)
 |_,_,.nil=>rfl
 |_,_,.cons (k:=k') a r=>by
  rw[La,<-Af.any k r]
  by_cases e:k'=k
  ·rw[Bb e];simp[e]
  ·rw[AM e];simp[e]
def ip(hu:X.A.units+160 < cLine):gK X (compareOp .In) (iM false):=⟨fun pins s σ H x y v u Q I rx ry ⟨px,py,S,Q3,r1,r2,rS,q,k⟩=>by
 unfold iM at q
 split at q
 ·cases r1;cases r2
  exact nE pins s σ H _ _ v u Q I rx ry ⟨_,_,rfl,rfl,k _ S _ H (by simpa using q) (.bl _) rS .refl⟩
 ·split at q
  ·cases r2
   cases ry
   split at q
   ·rename_i xs e
    obtain⟨d,ds,h1,h2,c1,c2,hd,q⟩:=q
    obtain⟨as,a1⟩:=h1.reads I rS r1 rx
    obtain⟨bs,a2⟩:=(Dat.ref e h2).reads I rS (.ref _) (rfl:RelV (.ref _) (.ref _))
    exact SeqAt.in_list_reads a2 a1 c2 c1 (by omega) ⟨.bl _,H,I,rfl,k _ S _ H (by simpa [io]using q) (.bl _) rS .refl⟩
   ·rename_i kvs e
    obtain⟨kv,hv,rk⟩:=rS _ _ e
    split at q
    ·cases r1
     exact wN (by omega) I (DGet.k (k:=Sum.inr _) hv) rx fun s3 I3=>⟨.bl _,H,I3,rfl,k _ S _ H (by rw[rk.any];simpa using q) (.bl _) rS .refl⟩
    ·cases r1
     exact wN (by omega) I (DGet.k (k:=Sum.inl _) hv) rx fun s3 I3=>⟨.bl _,H,I3,rfl,k _ S _ H (by rw[rk.any];simpa using q) (.bl _) rS .refl⟩
    ·exact q.elim
   ·exact q.elim
  ·rename_i xs
   obtain⟨d,ds,h1,h2,c1,c2,hd,q⟩:=q
   obtain⟨as,a1⟩:=h1.reads I rS r1 rx
   obtain⟨bs,a2⟩:=(Dat.tup h2).reads I rS r2 ry
   exact SeqAt.in_tuple_reads a2 a1 c2 c1 (by omega) ⟨.bl _,H,I,rfl,k _ S _ H (by simpa [io]using q) (.bl _) rS .refl⟩
  ·exact q.elim⟩
def i5(hu:X.A.units+160 < cLine):gK X (compareOp .NotIn) (iM true):=⟨fun pins s σ H x y v u Q I rx ry ⟨px,py,S,Q3,r1,r2,rS,q,k⟩=>by
 unfold iM at q
 split at q
 ·cases r1;cases r2
  exact kw pins s σ H _ _ v u Q I rx ry ⟨_,_,rfl,rfl,k _ S _ H (by simpa using q) (.bl _) rS .refl⟩
 ·split at q
  ·cases r2
   cases ry
   split at q
   ·rename_i xs e
    obtain⟨d,ds,h1,h2,c1,c2,hd,q⟩:=q
    obtain⟨as,a1⟩:=h1.reads I rS r1 rx
    obtain⟨bs,a2⟩:=(Dat.ref e h2).reads I rS (.ref _) (rfl:RelV (.ref _) (.ref _))
    exact SeqAt.notIn_list_reads a2 a1 c2 c1 (by omega) ⟨.bl _,H,I,rfl,k _ S _ H (by simpa [io]using q) (.bl _) rS .refl⟩
   ·rename_i kvs e
    obtain⟨kv,hv,rk⟩:=rS _ _ e
    split at q
    ·cases r1
     exact mV (by omega) I (DGet.k (k:=Sum.inr _) hv) rx fun s3 I3=>⟨.bl _,H,I3,rfl,k _ S _ H (by rw[rk.any];simpa using q) (.bl _) rS .refl⟩
    ·cases r1
     exact mV (by omega) I (DGet.k (k:=Sum.inl _) hv) rx fun s3 I3=>⟨.bl _,H,I3,rfl,k _ S _ H (by rw[rk.any];simpa using q) (.bl _) rS .refl⟩
    ·exact q.elim
   ·exact q.elim
  ·rename_i xs
   obtain⟨d,ds,h1,h2,c1,c2,hd,q⟩:=q
   obtain⟨as,a1⟩:=h1.reads I rS r1 rx
   obtain⟨bs,a2⟩:=(Dat.tup h2).reads I rS r2 ry
   exact SeqAt.notIn_tuple_reads a2 a1 c2 c1 (by omega) ⟨.bl _,H,I,rfl,k _ S _ H (by simpa [io]using q) (.bl _) rS .refl⟩
  ·exact q.elim⟩
end
end L3
namespace HT
open PySem PySem.Spec PyProof.Rows
section
variable {prog:Program} {w:World} {A:Around} {E:Vq} {s:Shared}
def f9{t sl:Addr}{items:Vw}{vl vu:Value}{lo hi:Option Int}{Q:Vq}(ht:IsTup s.heap t items)(hs:s.heap.IsSliceOf sl vl vu .none)(pl:IsPart vl lo)(pu:IsPart vu hi)
  (hw:Aj items.size 0 lo=0/\Aj items.size items.size hi=items.size)
  (h:Q (.ref t) s):wpAny (model prog w) A (getItem (.ref t) (.ref sl)) Q E s:=by
 obtain⟨os,hos,hcs,hds⟩:=id hs
 have Fx:s.TypeIs (.ref sl) "slice":=⟨os,hos,hcs⟩
 unfold getItem
 try with_reducible refine Jv ?_
 first|refine HK (HR ?_)|skip
 refine HK (wpAny_sequenceKey ht.typeIs (by decide) ?_)
 refine HK (IS (name:=Str.ofString "__getitem__") ht.typeIs IK
  (Js IK ht.typeIs entry_tuple_getitem ?_ (args_tuple_getitem _ _)))
 show wpAny _ _ (Builtin.Tuple.tupleItemsOf (.ref t) >>= _) _ _ s
 refine HK (tupleItemsOf_ ht ?_)
 refine HK (KU Fx ?_)
 rw[if_pos (by decide)]
 refine HK (dr hs pl pu ?_)
 have hyes:(((Aj items.size 0 lo:Nat):Int) == 0&&(1:Int) == 1&&(Aj items.size items.size hi - Aj items.size 0 lo) == items.size)=true:=by
  rw[hw.1,hw.2];simp
 show wpAny _ _ (if (((Aj items.size 0 lo:Nat):Int) == 0&&(1:Int) == 1&&(Aj items.size items.size hi - Aj items.size 0 lo) == items.size)=true then _ else _) _ _ s
 rw[if_pos hyes]
 unfold Builtin.Tuple.tupleIsExact
 refine HK (HK (KU ht.typeIs (HR ?_)))
 rw[if_pos (by decide)]
 first
  |exact HK (KH (HR ⟨_,rfl,HR h⟩))
  |exact HK (KH (HK (HR (HR ⟨_,rfl,HR h⟩))))
  |exact HK (KH (HK (HR ⟨_,rfl,HR h⟩)))
end
end HT
namespace L2
open PySem PySem.Spec PyProof.Rows
section
variable {X:Cx}
noncomputable def w9(K:Vo):V->Option Int->Option Int->Hp->VK->Prop:=fun x lo hi H Q=>∃a xs,x = .ref a/\SqT K H a xs/\∀r H',(∀c o,H c=some o->H' c=some o)->SqT K H' r (iV xs lo hi)->Q (.ref r) H'
def su:vW X (w9 X.K):=by
 intro pins s σ H x v vl vu lo hi sl Q I rx hs pl pu h
 obtain⟨a,xs,rfl,hx,q⟩:=h
 by_cases hw:HT.Aj xs.length 0 lo=0/\HT.Aj xs.length xs.length hi=xs.length
 ·cases rx
  obtain⟨its,r,ht,hz⟩:=I.tuple hx
  have hlen:its.toArray.size=xs.length:=by rw[HQ];exact r.length.symm
  refine⟨"tuple",_,IK.lookup,ht.typeIs,HT.f9 ht hs pl pu (by rw[hlen];exact hw) ⟨.ref a,H,I,rfl,q a H (fun _ _ e=>e) ?_⟩⟩
  have e:iV xs lo hi=xs:=by unfold iV;rw[hw.1,hw.2];simp
  rw[e];exact hx
 ·exact uN pins s σ H _ v vl vu lo hi sl Q I rx hs pl pu ⟨a,xs,rfl,hx,hw,fun p hp=>q p _ (fun c o e=>by rw[av (aM e hp)];exact e) (SqT.of ax)⟩
def sv(hu:X.A.units+1 < cLine):vX X (fun x y H Q=>∃a v,x = .ref a/\DGet H a y (some v)/\Q v H):=by
 intro value slice pins s σ H x y v u Q I rx ry h hs
 obtain⟨a,z,rfl,g,q⟩:=h
 cases rx
 exact tail_any (lg I g) PySem.F.slot_dict_getitem.lookup (nL hu I g ry fun w' s3 I3 rw'=>⟨z,H,I3,rw',q⟩) hs
def pX(hu:X.A.units+1 < cLine):rq X (fun o i v H Q=>∃a H',o = .ref a/\Dh H a i v H'/\Q H'):=by
 intro pins s σ H o i v ov iv u Q I ro ri rv h
 obtain⟨a,H',rfl,g,q⟩:=h
 cases ro
 exact nM hu I g ri rv fun s' I'=>⟨H',I',q⟩
end
end L2
namespace L3
open PySem L2
theorem Reps.AD{K:Vo}{H:Hp}{vs:List V}{ps:List PV}{i:Int}{p:PV}(r:Reps K H vs ps)(h:L2.AD ps i=some p):∃v,L2.AD vs i=some v/\Rep K H v p:=by
 unfold L2.AD at h ⊢
 rw[r.length]
 cases e:nI ps.length i with
 |none=>rw[e]at h;cases h
 |some j=>
  rw[e]at h
  obtain⟨v,h1,h2⟩:=r.get h
  exact⟨v,h1,h2⟩
noncomputable def gL:PV->Option ba
 | .int i=>some (.inl i)
 | .str x=>some (.inr x)
 |_=>none
def cm{K:Vo}{H:Hp}{v:V}{p:PV}{k:ba}(r:Rep K H v p)(h:gL p=some k):v=kV k:=by
 cases p with
 |int i=>cases h;cases r;rfl
 |str i=>cases h;cases r;rfl
 |_=>cases h
noncomputable def dy{κ:Type} [DecidableEq κ]:List (κ×PV)->κ->Option PV
 |[],_=>none
 |(k',v)::r,k=>if k'=k then some v else dy r k
theorem Af.val{K:Vo}{H:Hp}{κ:Type} [DecidableEq κ]{k:κ}{p:PV}:∀{vs:List (κ×V)} {ps:List (κ×PV)},Af K H vs ps->dy ps k=some p->∃v,fg vs k=some v/\Rep K H v p
 |_,_,.nil,h=>by cases h
 |_,_,.cons (k:=k') a r,h=>by
  unfold dy at h
  split at h
  ·rename_i e;cases h;exact⟨_,Bb e,a⟩
  ·rename_i e;rw[AM e];exact Af.val r h
theorem Af.valN{K:Vo}{H:Hp}{κ:Type} [DecidableEq κ]{k:κ}:∀{vs:List (κ×V)} {ps:List (κ×PV)},Af K H vs ps->dy ps k=none->fg vs k=none
 |_,_,.nil,_=>rfl
 |_,_,.cons (k:=k') a r,h=>by
  unfold dy at h
  split at h
  ·cases h
  ·rename_i e;rw[AM e];exact Af.valN r h
section
variable {X:Cx} {a b e lo hi:Expr} {ta tb te:aO} {pos p2:Pos}
structure zn (X:Cx) (r:R3):Prop where
 ok:vX X (LR X r)
def w_{r:R3}(hr:zn X r)(ha:aX X a ta)(hb:aX X b tb)(hs:iJ b):aX X (.Subscript a b pos) (ah r ta tb):=⟨aH (wI hr.ok ha.ok hb.ok hs) fun _ _ _=>iL⟩
def ag:R3:=fun x y S Q=>match x with
 | .tup xs=>match y with | .int i=>(match AD xs i with|some v=>Q v S|none=>False)|_=>False
 | .cl xs=>match y with | .int i=>(match AD xs i with|some v=>Q v S|none=>False)|_=>False
 | .str z=>match y with | .int i=>z.length<=sizeLine/\(match AD z.cps.toList i with|some c=>Q (.str ⟨#[c]⟩) S|none=>False)|_=>False
 | .ref a=>match S a with
  |some (.lst xs)=>(match y with | .int i=>(match AD xs i with|some v=>Q v S|none=>False)|_=>False)
  |some (.dct kvs)=>(match gL y with|some k=>(match dy kvs k with|some v=>Q v S|none=>False)|none=>False)
  |_=>False
 |_=>False
def zo(hu:X.A.units+1 < cLine):zn X ag:=⟨fun value slice pins s σ H x y v u Q I rx ry ⟨px,py,S,Q3,r1,r2,rS,q,k⟩ hs=>by
 unfold ag at q
 split at q
 ·split at q
  ·split at q
   ·rename_i e
    cases r2
    cases r1 with
    |tup h1 rs=>
     obtain⟨w,hw,rw'⟩:=rs.AD e
     exact uP value slice pins s σ H _ _ v u Q I rx ry ⟨_,_,_,w,rfl,rfl,h1,hw,k _ S _ H q rw' rS .refl⟩ hs
   ·exact q.elim
  ·exact q.elim
 ·split at q
  ·split at q
   ·rename_i e
    cases r2
    cases r1 with
    |cl h1 rs=>
     obtain⟨w,hw,rw'⟩:=rs.AD e
     exact mT value slice pins s σ H _ _ v u Q I rx ry ⟨_,_,_,w,rfl,rfl,h1.sq,hw,k _ S _ H q rw' rS .refl⟩ hs
   ·exact q.elim
  ·exact q.elim
 ·split at q
  ·obtain⟨hz,q⟩:=q
   split at q
   ·rename_i e
    cases r1;cases r2
    exact uQ value slice pins s σ H _ _ v u Q I rx ry ⟨_,_,_,rfl,rfl,hz,e,k _ S _ H q (.str _) rS .refl⟩ hs
   ·exact q.elim
  ·exact q.elim
 ·split at q
  ·rename_i e0
   split at q
   ·split at q
    ·rename_i e
     cases r1;cases r2
     obtain⟨vs,hv,rs⟩:=rS _ _ e0
     obtain⟨w,hw,rw'⟩:=rs.AD e
     exact mT value slice pins s σ H _ _ v u Q I rx ry ⟨_,_,_,w,rfl,rfl,SqL.of hv,hw,k _ S _ H q rw' rS .refl⟩ hs
    ·exact q.elim
   ·exact q.elim
  ·rename_i e0
   split at q
   ·rename_i ek
    split at q
    ·rename_i ev
     cases r1
     have e1:=cm r2 ek
     subst e1
     obtain⟨kv,hv,rk⟩:=rS _ _ e0
     obtain⟨w,hw,rw'⟩:=rk.val ev
     refine sv hu value slice pins s σ H _ _ v u Q I rx ry ⟨_,w,rfl,?_,k _ S _ H q rw' rS .refl⟩ hs
     rw[<-hw]
     exact DGet.k hv
    ·exact q.elim
   ·exact q.elim
  ·exact q.elim
 ·exact q.elim⟩
abbrev vY:=b5->ar->(Option Int->ar->Prop)->cz->Prop
inductive LO (X:Cx) (t:vY) (σ:L2.St) (H:Hp) (Q:Option Int->Hp->Prop):Prop
 |mk (σ3 S Q3 E3) (rσ:zZ X.K H σ σ3) (rS:zY X.K H S) (h:t σ3 S Q3 E3) (xo:C9 X H E3) (k:∀o S' H',Q3 o S'->zY X.K H' S'->Grow X.K H H'->Q o H'):LO X t σ H Q
structure xW (X:Cx) (e:Option Expr) (t:vY):Prop where
 ok:PO X e (LO X t)
noncomputable def kK:vY:=fun _ S Q _=>Q none S
noncomputable def jH(t:aO):vY:=fun σ S Q E=>t σ S (fun v S'=>match v with | .int i=>Q (some i) S'|_=>False) E
def pY{e:Option Expr}{t t':TO}(h:PO X e t)(k:∀σ H Q,t' σ H Q->t σ H Q):PO X e t':=fun pins s σ H Q I q=>h pins s σ H Q I (k σ H Q q)
def cF:xW X none kK:=⟨pY rN fun σ H Q ⟨σ3,S,Q3,E3,rσ,rS,h,xo,k⟩=>k none S H h rS .refl⟩
def b6(h:aX X e te):xW X (some e) (jH te):=⟨pY (rO h.ok) fun σ H Q ⟨σ3,S,Q3,E3,rσ,rS,h,xo,k⟩=>⟨σ3,S,_,E3,rσ,rS,h,xo,fun p S' v H' h1 rv By g=>by
 cases p with
 |int i=>cases rv;exact⟨i,rfl,k _ S' H' h1 By g⟩
 |_=>exact h1.elim⟩⟩
noncomputable def dg{α:Type}(xs:List α)(lo hi:Option Int):List α:=(xs.drop (HT.Aj xs.length 0 lo)).take (HT.Aj xs.length xs.length hi - HT.Aj xs.length 0 lo)
def Reps.cut{K:Vo}{H:Hp}{vs:List V}{ps:List PV}(r:Reps K H vs ps)(lo hi:Option Int):Reps K H (iV vs lo hi) (dg ps lo hi):=by
 unfold iV dg
 rw[r.length]
 exact(r.drop _).take _
def kL(x:PV)(lo hi:Option Int)(S:ar)(Q:bF):Prop:=match x with
 | .tup xs=>Q (.tup (dg xs lo hi)) S
 | .cl xs=>∀p,S p=none->Q (.ref p) (zS S p (.lst (dg xs lo hi)))
 | .str z=>z.length<=sizeLine/\Q (.str (Txt.slice z lo hi)) S
 | .ref a=>match S a with|some (.lst xs)=>∀p,S p=none->Q (.ref p) (zS S p (.lst (dg xs lo hi)))|_=>False
 |_=>False
noncomputable def zC(X:Cx):V->Option Int->Option Int->Hp->VK->Prop:=fun x lo hi H Q=>∃px S Q3,Rep X.K H x px/\zY X.K H S/\kL px lo hi S Q3/\C_ X.K H Q3 Q
def zD:vW X (zC X):=by
 intro pins s σ H x v vl vu lo hi sl Q I rx hs pl pu ⟨px,S,Q3,r1,rS,q,k⟩
 unfold kL at q
 split at q
 ·cases r1 with
  |tup h1 rs=>exact su pins s σ H _ v vl vu lo hi sl Q I rx hs pl pu ⟨_,_,rfl,h1,fun r H' hh hr=>k _ S _ H' q (.tup hr ((rs.cut lo hi).mono (.same hh))) (rS.grow hh) (.same hh)⟩
 ·cases r1 with
  |cl h1 rs=>exact mU pins s σ H _ v vl vu lo hi sl Q I rx hs pl pu ⟨_,_,rfl,h1.sq,fun p hp=>k _ _ _ _ (q p (rS.free hp)) (.ref p) (rS.new hp ⟨_,ax,(rs.cut lo hi).mono (.new hp)⟩) (.new hp)⟩
 ·cases r1
  exact u6 pins s σ H _ v vl vu lo hi sl Q I rx hs pl pu ⟨_,rfl,q.1,k _ S _ H q.2 (.str _) rS .refl⟩
 ·split at q
  ·rename_i e
   cases r1
   obtain⟨vs,hv,rs⟩:=rS _ _ e
   exact mU pins s σ H _ v vl vu lo hi sl Q I rx hs pl pu ⟨_,_,rfl,SqL.of hv,fun p hp=>k _ _ _ _ (q p (rS.free hp)) (.ref p) (rS.new hp ⟨_,ax,(rs.cut lo hi).mono (.new hp)⟩) (.new hp)⟩
  ·exact q.elim
 ·exact q.elim
def bf(te:aO)(tl th:vY):aO:=fun σ S Q E=>te σ S (fun x S1=>tl σ S1 (fun l S2=>th σ S2 (fun u S3=>kL x l u S3 Q) E) E) E
def bG{lo hi:Option Expr}{tl th:vY}(he:aX X e te)(hl:xW X lo tl)(hu:xW X hi th):aX X (.Subscript e (.Slice lo hi none p2) pos) (bf te tl th):=
 ⟨aH (oZ zD he.ok hl.ok hu.ok) fun σ H Q ⟨σ3,S,Q3,E3,rσ,rS,h,xo,k⟩=>⟨σ3,S,_,E3,rσ,rS,h,xo,fun x S1 v H1 h1 rx z0 g1=>⟨σ3,S1,_,E3,rσ.mono g1,z0,h1,xo.mono g1,fun l S2 H2 h2 Bn g2=>
  ⟨σ3,S2,_,E3,rσ.mono (g1.trans g2),Bn,h2,xo.mono (g1.trans g2),fun u S3 H3 h3 Dt g3=>⟨x,S3,Q3,rx.mono (g2.trans g3),Dt,h3,k.mono (g1.trans (g2.trans g3))⟩⟩⟩⟩⟩
def sx:fW X (binaryOp .Mult) (rI IntMulOk fun i j=>.int (i * j)):=xS fun _ _ _ _ _ _ _ hc q=>PyProof.Rows.mul_int q hc
def iF:R3:=fun x y S Q=>match x,y with
 | .int i,.int j=>IntMulOk i j/\Q (.int (i * j)) S
 | .ref a,.int j=>(match S a with|some (.lst xs)=>-(2 ^ 63)<=j/\j < 2 ^ 63/\xs.length * j.toNat<=sizeLine/\∀p,S p=none->Q (.ref p) (zS S p (.lst (List.replicate j.toNat xs).flatten))|_=>False)
 |_,_=>False
theorem Reps.rep{K:Vo}{H:Hp}{vs:List V}{ps:List PV}(r:Reps K H vs ps):∀n:Nat,Reps K H (List.replicate n vs).flatten (List.replicate n ps).flatten
 |0=>.nil
 |n+1=>by
  rw[IZ,IZ,JT,JT]
  exact r.append (Reps.rep r n)
def fB:gK X (binaryOp .Mult) iF:=⟨fun pins s σ H x y v u Q I rx ry ⟨px,py,S,Q3,r1,r2,rS,q,k⟩=>by
 unfold iF at q
 split at q
 ·cases r1;cases r2
  exact sx pins s σ H _ _ v u Q I rx ry ⟨_,_,rfl,rfl,q.1,k _ S _ H q.2 (.int _) rS .refl⟩
 ·split at q
  ·rename_i e
   cases r1;cases r2
   obtain⟨vs,hv,rs⟩:=rS _ _ e
   exact uV pins s σ H _ _ v u Q I rx ry ⟨_,_,_,rfl,rfl,hv,q.1,q.2.1,by rw[rs.length];exact q.2.2.1,fun p hp=>k _ _ _ _ (q.2.2.2 p (rS.free hp)) (.ref p) (rS.new hp ⟨_,ax,(rs.rep _).mono (.new hp)⟩) (.new hp)⟩
  ·exact q.elim
 ·exact q.elim⟩
end
end L3
namespace L2
open PySem PySem.Spec PyProof.Rows
section
variable {X:Cx}
def mi{pins:Va}{σ:St}{H:Hp}{s:Shared}{x:Value}{t:Value}{p:Heap->Prop}{vs:List V}{tp:Addr}{b:Bool}{Q:Vq}{E:Vq}(I:Inv X pins σ H s)(Z:PySem.W.KitX X.K x t p)(hp:p s.heap)(hx:x ≠ .builtin "__main__.__loader__#opaque")
  (ht:SqT X.K H tp vs) (e:∀its,Vals vs its->PySem.W.kitAny X.K t its=some b) (h:∀tk,Q (.bool b) { s with toks:=tk }):wpAny (model X.prog X.w) X.A (call (.builtin "isinstance") [x,.ref tp]) Q E s:=by
 obtain⟨its,rv,⟨⟨cls,dd,data,sl⟩,ho,hc,n,hd⟩,hz⟩:=I.tuple ht
 simp only at hc hd
 subst hc hd
 exact PySem.W.kia_tup Z I.De hp ho (e its rv) hx h
end
end L2
namespace L3
open PySem L2
abbrev n6:=List PV->ar->bF->Prop
section
variable {X:Cx} {e o:Expr} {es:List Expr} {te to:aO} {ts:List aO} {x:Str} {p pos apos cpos:Pos}
inductive LC (X:Cx) (r:n6) (xs:List V) (H:Hp) (Q:VK):Prop
 |mk (ps S Q3) (rx:Reps X.K H xs ps) (rS:zY X.K H S) (h:r ps S Q3) (k:C_ X.K H Q3 Q):LC X r xs H Q
structure f_ (X:Cx) (f:Value) (r:n6):Prop where
 ok:fX X f (LC X r)
def am(r:n6)(ts:List aO):aO:=fun σ S Q E=>ap ts σ S (fun ps S1=>r ps S1 Q) E
def m4{r:n6}{σ:L2.St}{H:Hp}{Q:VK}:LE X (am r ts) σ H Q->xV (ts.map (LE X)) σ H fun vs H1=>LC X r vs H1 Q:=fun⟨σ3,S,Q3,E3,rσ,rS,h,xo,k⟩=>
 bL rσ rS h xo fun ps S' vs H' hl q rv By g=>⟨ps,S',Q3,rv,By,q,k.mono g⟩
def sy{id:String}{r:n6}(hc:f_ X (.builtin id) r)(hg:Gl X x)(hm:X.mg x=none)(hv:bootBuiltins x=some (.builtin id))(he:starEach (e::es) X.env=(false,eval e X.env)::starEach es X.env)(ha:iD X (e::es) ts)
  (hn:x ≠ "__name__":=by decide) (hdb:(x == ("__debug__":Str))=false:=by decide) (hpl:(backTo pos (starEach es X.env)).any (·.1)=false:=by rfl):aX X (.Call (.Name x p) (e::es) [] pos) (am r ts):=
 ⟨aH (oX hc.ok hg hm hv ha.ok hn hdb he hpl) fun _ _ _=>m4⟩
def sA{id:String}{r:n6}(hc:f_ X (.type id) r)(hg:Gl X x)(hm:X.mg x=none)(hv:bootBuiltins x=some (.type id))(he:starEach (e::es) X.env=(false,eval e X.env)::starEach es X.env)(ha:iD X (e::es) ts)
  (hn:x ≠ "__name__":=by decide) (hdb:(x == ("__debug__":Str))=false:=by decide) (hpl:(backTo pos (starEach es X.env)).any (·.1)=false:=by rfl):aX X (.Call (.Name x p) (e::es) [] pos) (am r ts):=
 ⟨aH (nH hc.ok hg hm hv ha.ok hn hdb he hpl) fun _ _ _=>m4⟩
def bP:n6:=fun ps S Q=>match ps with
 |[.tup xs]=>Q (.int xs.length) S
 |[.cl xs]=>Q (.int xs.length) S
 |[.str z]=>z.length<=sizeLine/\Q (.int z.length) S
 |[.ref a]=>(match S a with|some (.lst xs)=>Q (.int xs.length) S|some (.dct kvs)=>Q (.int kvs.length) S|_=>False)
 |_=>False
def cG:f_ X (.builtin "len") bP:=⟨fun pins s σ H xs us Q I r ⟨ps,S,Q3,rp,rS,q,k⟩=>by
 unfold bP at q
 split at q
 ·cases rp with|cons a rr=>cases rr;cases a with|tup h rs=>exact dE pins s σ H _ us Q I r ⟨_,_,rfl,.inr h,by rw[rs.length];exact k _ S _ H q (.int _) rS .refl⟩
 ·cases rp with|cons a rr=>cases rr;cases a with|cl h rs=>exact dE pins s σ H _ us Q I r ⟨_,_,rfl,.inl h.sq,by rw[rs.length];exact k _ S _ H q (.int _) rS .refl⟩
 ·cases rp with|cons a rr=>cases rr;cases a;exact ky pins s σ H _ us Q I r ⟨_,rfl,q.1,k _ S _ H q.2 (.int _) rS .refl⟩
 ·cases rp with
  |cons a rr=>
   cases rr;cases a
   split at q
   ·rename_i e
    obtain⟨vs,hv,rs⟩:=rS _ _ e
    exact dE pins s σ H _ us Q I r ⟨_,_,rfl,.inl (SqL.of hv),by rw[rs.length];exact k _ S _ H q (.int _) rS .refl⟩
   ·rename_i e
    obtain⟨vs,hv,rs⟩:=rS _ _ e
    exact nP pins s σ H _ us Q I r ⟨_,_,rfl,hv,by rw[rs.length];exact k _ S _ H q (.int _) rS .refl⟩
   ·exact q.elim
 ·exact q.elim⟩
def i6:n6:=fun ps S Q=>match ps with|[.int i,.int j]=>Q (.int (if j > i then j else i)) S|_=>False
def pZ(hc:X.calm=true):f_ X (.builtin "max") i6:=⟨fun pins s σ H xs us Q I r ⟨ps,S,Q3,rp,rS,q,k⟩=>by
 unfold i6 at q
 split at q
 ·cases rp with|cons a rr=>cases rr with|cons b r3=>cases r3;cases a;cases b;exact nF hc pins s σ H _ us Q I r ⟨_,_,rfl,k _ S _ H q (.int _) rS .refl⟩
 ·exact q.elim⟩
def aQ:n6:=fun ps S Q=>match ps with
 |[v]=>(match iE S v with|some xs=>Q (.tup xs) S|none=>False)
 |_=>False
def bS:f_ X (.type "tuple") aQ:=⟨fun pins s σ H xs us Q I r ⟨ps,S,Q3,rp,rS,q,k⟩=>by
 unfold aQ at q
 split at q
 ·cases rp with
  |cons a rr=>
   cases rr
   split at q
   ·rename_i e
    obtain⟨b,vs,rfl,hs,rs⟩:=vj rS a e
    rcases hs with hs|hs
    ·exact fk pins s σ H _ us Q I r ⟨_,_,rfl,.inl ⟨hs,fun p hp=>k _ S _ _ q (.tup (SqT.of ax) (rs.mono (.new hp))) (rS.other hp) (.new hp)⟩⟩
    ·exact fk pins s σ H _ us Q I r ⟨_,_,rfl,.inr ⟨hs,k _ S _ _ q (.tup hs rs) rS .refl⟩⟩
   ·exact q.elim
 ·exact q.elim⟩
noncomputable def i7:List PV->Option (List Bool)
 |[]=>some []
 | .bl b::r=>(i7 r).map (b::·)
 |_::_=>none
theorem i8{K:Vo}{H:Hp}:∀{vs:List V} {ps:List PV} {bs:List Bool},Reps K H vs ps->i7 ps=some bs->vs=bs.map V.bl
 |_,_,_,.nil,h=>by cases h;rfl
 |_,_,bs,.cons (p:=p) a r,h=>by
  cases p with
  |bl b=>
   cases a
   unfold i7 at h
   cases e:i7 _ with
   |none=>rw[e]at h;cases h
   |some l=>rw[e]at h;cases h;rw[i8 r e];rfl
  |_=>cases h
def mj:n6:=fun ps S Q=>match ps with
 |[.ref a]=>(match S a with|some (.lst xs)=>(match i7 xs with|some bs=>Q (.bl (bs.all id)) S|none=>False)|_=>False)
 |_=>False
def tV(hc:X.calm=true):f_ X (.builtin "all") mj:=⟨fun pins s σ H xs us Q I r ⟨ps,S,Q3,rp,rS,q,k⟩=>by
 unfold mj at q
 split at q
 ·cases rp with
  |cons a rr=>
   cases rr;cases a
   split at q
   ·rename_i e
    split at q
    ·rename_i eb
     obtain⟨vs,hv,rs⟩:=rS _ _ e
     have e2:=i8 rs eb
     subst e2
     exact nS hc pins s σ H _ us Q I r ⟨_,_,rfl,SqL.of hv,k _ S _ H q (.bl _) rS .refl⟩
    ·exact q.elim
   ·exact q.elim
 ·exact q.elim⟩
end
noncomputable def fh(t c:String):Bool:=t == c || (t == "bool" && c == "int")
noncomputable def ml(S:ar):PV->Option String
 | .non=>some "NoneType"
 | .bl _=>some "bool"
 | .int _=>some "int"
 | .str _=>some "str"
 | .tup _=>some "tuple"
 | .cl _=>some "list"
 | .ref a=>(match S a with|some (.lst _)=>some "list" | some (.dct _)=>some "dict" | _=>none)
 | .ty _=>none
 | .exc _ _ _=>none
 | .cls _=>none
noncomputable def cN(c:String):Bool:=["int","str","bool","tuple","list","dict"].contains c
def p7(K:Vo)(t c:String):PySem.W.kitCls K (.type t) (.type c)=(if PySem.W.kitMeta c=true then (PySem.fastBuiltinMro t).map (·.contains (Value.type c)) else none):=rfl
def m5{K:Vo}{t c:String}(ht:t∈["NoneType","bool","int","str","tuple","list","dict"])(hc:cN c=true):PySem.W.kitOne K (.type t) (.type c)=some (fh t c):=by
 have hc':c∈["int","str","bool","tuple","list","dict"]:=by
  have:=hc
  unfold cN at this
  simpa using this
 simp only[HW,Il,Jc]at ht hc'
 rcases ht with rfl|rfl|rfl|rfl|rfl|rfl|rfl<;>rcases hc' with rfl|rfl|rfl|rfl|rfl|rfl <;>
  first
   |(unfold PySem.W.kitOne;rw[if_pos (by decide)];rfl)
   |(unfold PySem.W.kitOne;rw[if_neg (by decide),p7];decide +kernel)
def p8{S:ar}{p:PV}{t:String}(h:ml S p=some t):t∈["NoneType","bool","int","str","tuple","list","dict"]:=by
 unfold ml at h
 split at h<;>first|(cases h;decide)|(split at h<;>first|(cases h;decide)|cases h)|cases h
section
variable {X:Cx}
noncomputable def vk:List PV->Option (List String)
 |[]=>some []
 | .ty c::r=>if cN c then (vk r).map (c::·) else none
 |_::_=>none
def i9:n6:=fun ps S Q=>match ps with
 |[x,.ty c]=>(match ml S x with|some t=>cN c=true/\Q (.bl (fh t c)) S|none=>False)
 |[x,.tup cs]=>(match ml S x,vk cs with|some t,some l=>Q (.bl (l.any (fh t))) S|_,_=>False)
 |_=>False
def sB{K:Vo}{H:Hp}{t:String}(ht:t∈["NoneType","bool","int","str","tuple","list","dict"]):∀(cs:List PV) {l:List String} {vs:List V} {its:Vv},vk cs=some l->Reps K H vs cs->Vals vs its->PySem.W.kitAny K (.type t) its=some (l.any (fh t)):=by
 intro cs
 induction cs with
 |nil=>intro l vs its h rs r;cases h;cases rs;cases r;rfl
 |cons p cs ih=>
  intro l vs its h rs r
  cases p with
  |ty c=>
   unfold vk at h
   split at h
   ·rename_i hc
    cases e:vk cs with
    |none=>rw[e]at h;cases h
    |some l'=>
     rw[e]at h
     cases h
     cases rs with
     |cons a rs=>
      cases a
      cases r with
      |@cons _ u _ us r1 r2=>
       cases (show u=Value.type c from r1)
       show(match PySem.W.kitOne K (.type t) (.type c)with|some true=>some true|some false=>PySem.W.kitAny K (.type t) us|none=>none)=_
       rw[m5 ht hc,La]
       cases fh t c with
       |true=>rfl
       |false=>exact ih e rs r2
   ·cases h
  |_=>cases h
def i_:f_ X (.builtin "isinstance") i9:=⟨fun pins s σ H xs us Q I r ⟨ps,S,Q3,rp,rS,q,k⟩=>by
 have main:∀{v:PV} {x:V} {u:Value} {t:String},Rep X.K H x v->RelV x u->ml S v=some t->∃(h:Heap->Prop),PySem.W.KitX X.K u (.type t) h/\h s.heap/\u ≠ .builtin "__main__.__loader__#opaque":=by
  intro v x u t rv rx ht
  cases rv with
  |non=>cases ht;cases rx;exact⟨_,PySem.W.kitx_none,True.intro,fun z=>nomatch z⟩
  |bl b=>cases ht;cases rx;exact⟨_,PySem.W.kitx_bool,True.intro,fun z=>nomatch z⟩
  |int b=>cases ht;obtain⟨t,rfl⟩:=rx;exact⟨_,PySem.W.kitx_int,True.intro,fun z=>nomatch z⟩
  |str b=>cases ht;obtain⟨t,rfl⟩:=rx;exact⟨_,PySem.W.kitx_str,True.intro,fun z=>nomatch z⟩
  |ty b=>cases ht
  |exc _ _ _=>cases ht
  |cls _=>cases ht
  |tup h rs=>
   cases ht;cases rx
   obtain⟨its,_,⟨o,ho,hc,_⟩,_⟩:=I.tuple h
   exact⟨_,PySem.W.kitx_tuple,⟨o,ho,hc⟩,fun z=>nomatch z⟩
  |cl h rs=>
   cases ht;cases rx
   obtain⟨its,_,⟨o,n,ho,hc,_⟩,_⟩:=I.list h.sq
   exact⟨_,PySem.W.kitx_list,⟨o,ho,hc⟩,fun z=>nomatch z⟩
  |ref a=>
   cases rx
   unfold ml at ht
   simp only at ht
   split at ht
   ·rename_i e
    cases ht
    obtain⟨vs,hv,_⟩:=rS _ _ e
    obtain⟨its,_,⟨o,n,ho,hc,_⟩,_⟩:=I.list (SqL.of hv)
    exact⟨_,PySem.W.kitx_list,⟨o,ho,hc⟩,fun z=>nomatch z⟩
   ·rename_i e
    cases ht
    obtain⟨vs,hv,_⟩:=rS _ _ e
    obtain⟨_,_,vs',_,p⟩:=(show Am X.prog X.w H s.heap _ (.dK vs)from I.hok _ _ hv)
    obtain⟨o,es,ep,h1,h2,_⟩:=p
    exact⟨_,PySem.W.kitx_dict,⟨o,h1,h2.1⟩,fun z=>nomatch z⟩
   ·cases ht
 unfold i9 at q
 split at q
 ·split at q
  ·rename_i ht
   cases rp with
   |cons a rr=>
    cases rr with
    |cons b r3=>
     cases r3;cases b
     cases r with
     |cons r1 r2=>
      cases r2 with
      |cons r4 r5=>
       cases r5
       cases (show _=Value.type _ from r4)
       obtain⟨h,Z,hp,hx⟩:=main a r1 ht
       exact PySem.W.kia_one Z I.De hp (m5 (p8 ht) q.1) hx fun tk=>⟨.bl _,H,I.tok _,rfl,k _ S _ H q.2 (.bl _) rS .refl⟩
  ·exact q.elim
 ·split at q
  ·rename_i ht hl
   cases rp with
   |cons a rr=>
    cases rr with
    |cons b r3=>
     cases r3
     cases b with
     |tup h1 rs=>
      cases r with
      |cons r1 r2=>
       cases r2 with
       |cons r4 r5=>
        cases r5
        cases r4
        obtain⟨h,Z,hp,hx⟩:=main a r1 ht
        exact mi I Z hp hx h1 (fun its rv=>sB (p8 ht) _ hl rs rv) fun tk=>⟨.bl _,H,I.tok _,rfl,k _ S _ H q (.bl _) rS .refl⟩
  ·exact q.elim
 ·exact q.elim⟩
end
abbrev mn:=PV->List PV->ar->bF->Prop
section
variable {X:Cx} {e o:Expr} {es:List Expr} {te to:aO} {ts:List aO} {name:Str} {p pos apos cpos:Pos} {T id:String}
inductive LM (X:Cx) (r:mn) (x:V) (xs:List V) (H:Hp) (Q:VK):Prop
 |mk (px ps S Q3) (rx:Rep X.K H x px) (rs:Reps X.K H xs ps) (rS:zY X.K H S) (h:r px ps S Q3) (k:C_ X.K H Q3 Q):LM X r x xs H Q
structure oH (X:Cx) (id:String) (r:mn):Prop where
 ok:uO X id (LM X r)
def mo(T:String)(x:PV)(S:ar):Prop:=match x with
 | .str _=>T = "str"
 | .ref a=>(match S a with|some (.lst _)=>T = "list" | some (.dct _)=>T = "dict" | _=>False)
 | .cl _=>T = "list"
 |_=>False
def p_{H:Hp}{S:ar}{v:V}{p:PV}(rS:zY X.K H S)(r:Rep X.K H v p)(h:mo T p S):xT X.K T v H:=by
 cases r with
 |str x=>exact h
 |ref a=>
  unfold mo at h
  simp only at h
  split at h
  ·rename_i e
   obtain⟨vs,hv,_⟩:=rS _ _ e
   exact .inl ⟨h,_,SqL.of hv⟩
  ·rename_i e
   obtain⟨vs,hv,_⟩:=rS _ _ e
   exact .inr (.inr (.inl ⟨h,.inl ⟨_,hv⟩⟩))
  ·exact h.elim
 |cl h1 _=>exact .inl ⟨h,_,h1.sq⟩
 |_=>exact h.elim
def d9(T:String)(r:mn)(to:aO)(ts:List aO):aO:=fun σ S Q E=>to σ S (fun x S1=>mo T x S1/\ap ts σ S1 (fun ps S2=>r x ps S2 Q) E) E
def yO{r:mn}(pa:PlainAttrs T)(slot:Slot T name id)(hty:typeOf (.builtin id)=pure (.type "method_descriptor"))(hm:oH X id r)(hs:starEach (e::es) X.env=(false,eval e X.env)::starEach es X.env)(ho:aX X o to)(ha:iD X (e::es) ts)
  (hbase:attributeBase o name X.env (eval o X.env)=eval o X.env:=by rfl)
  (hfew:((backTo cpos (starEach (e::es) X.env)).all (fun x=>!x.1)&&(backToKw cpos (keywordEach [] X.env)).all (fun x=>x.1.isSome)
   && decide ((e::es).length+([]:List Keyword).length+(if ([]:List Keyword).isEmpty then 0 else 1) < 30))=true:=by rfl)
  (hline:(apos.endLine == cpos.line)=true:=by rfl) (hplain:(backTo cpos (starEach es X.env)).any (·.1)=false:=by rfl):aX X (.Call (.Attribute o name apos) (e::es) [] cpos) (d9 T r to ts):=
 ⟨aH (wK pa slot hty hm.ok ho.ok ha.ok hbase hfew hline hs hplain) fun σ H Q ⟨σ3,S,Q3,E3,rσ,rS,h,xo,k⟩=>⟨σ3,S,_,E3,rσ,rS,h,xo,fun x S1 v H1 h1 rx z0 g1=>
  ⟨p_ z0 rx h1.1,bL (rσ.mono g1) z0 h1.2 (xo.mono g1) fun ps S2 vs H2 hl q rv Bn g2=>⟨x,ps,S2,Q3,rx.mono g2,rv,Bn,q,k.mono (g1.trans g2)⟩⟩⟩⟩
def xa{r:mn}(pa:PlainAttrs T)(slot:Slot T name id)(hty:typeOf (.builtin id)=pure (.type "method_descriptor"))(hm:oH X id r)(ho:aX X o to)
  (hbase:attributeBase o name X.env (eval o X.env)=eval o X.env:=by rfl) (hline:(apos.endLine == cpos.line)=true:=by rfl):aX X (.Call (.Attribute o name apos) [] [] cpos) (d9 T r to []):=
 ⟨aH (uR pa slot hty hm.ok ho.ok hbase hline) fun σ H Q ⟨σ3,S,Q3,E3,rσ,rS,h,xo,k⟩=>⟨σ3,S,_,E3,rσ,rS,h,xo,fun x S1 v H1 h1 rx z0 g1=>
  ⟨p_ z0 rx h1.1,⟨x,[],S1,Q3,rx,.nil,z0,h1.2,k.mono g1⟩⟩⟩⟩
def aZ:mn:=fun x ps S Q=>match x,ps with
 | .ref a,[y]=>(match S a with|some (.lst xs)=>xs.length < sizeLine/\Q .non (zS S a (.lst (xs++[y])))|_=>False)
 |_,_=>False
def ci:oH X "list.append" aZ:=⟨fun pins s σ H x xs v us Q I rx rs ⟨px,ps,S,Q3,r1,rp,rS,q,k⟩=>by
 unfold aZ at q
 split at q
 ·split at q
  ·rename_i e
   cases r1
   cases rp with
   |cons b rr=>
    cases rr
    obtain⟨vs,hv,rl⟩:=rS _ _ e
    exact nJ pins s σ H _ _ v us Q I rx rs ⟨_,_,_,rfl,rfl,hv,by rw[rl.length];exact q.1,k _ _ _ _ q.2 .non (rS.put hv trivial ⟨_,ax,(rl.append (.cons b .nil)).mono (.mut hv trivial)⟩) (.mut hv trivial)⟩
  ·exact q.elim
 ·exact q.elim⟩
def bT:mn:=fun x ps S Q=>match x,ps with
 | .ref a,[.ref b]=>(match S a,S b with|some (.lst xs),some (.lst ys)=>xs.length+ys.length<=sizeLine/\Q .non (zS S a (.lst (xs++ys)))|_,_=>False)
 |_,_=>False
def jc:oH X "list.extend" bT:=⟨fun pins s σ H x xs v us Q I rx rs ⟨px,ps,S,Q3,r1,rp,rS,q,k⟩=>by
 unfold bT at q
 split at q
 ·split at q
  ·rename_i e e2
   cases r1
   cases rp with
   |cons b rr=>
    cases rr
    cases b
    obtain⟨vs,hv,rl⟩:=rS _ _ e
    obtain⟨us',hu,ru⟩:=rS _ _ e2
    exact nK pins s σ H _ _ v us Q I rx rs ⟨_,_,_,_,rfl,rfl,hv,hu,by rw[rl.length,ru.length];exact q.1,k _ _ _ _ q.2 .non (rS.put hv trivial ⟨_,ax,(rl.append ru).mono (.mut hv trivial)⟩) (.mut hv trivial)⟩
  ·exact q.elim
 ·exact q.elim⟩
def lq:mn:=fun x ps S Q=>match x,ps with
 | .ref a,[]=>(match S a with|some (.lst xs)=>(match xs[xs.length - 1]? with|some y=>Q y (zS S a (.lst xs.dropLast))|none=>False)|_=>False)
 | .ref a,[.int i]=>(match S a with|some (.lst xs)=>-(2 ^ 63)<=i/\i < 2 ^ 63/\(match seqIndex? i xs.length with|some j=>(match xs[j]? with|some y=>Q y (zS S a (.lst (xs.eraseIdx j)))|none=>False)|none=>False)|_=>False)
 |_,_=>False
def tW:oH X "list.pop" lq:=⟨fun pins s σ H x xs v us Q I rx rs ⟨px,ps,S,Q3,r1,rp,rS,q,k⟩=>by
 unfold lq at q
 split at q
 ·split at q
  ·rename_i e
   split at q
   ·rename_i ey
    cases r1
    cases rp
    obtain⟨vs,hv,rl⟩:=rS _ _ e
    rw[<-rl.length]at ey
    obtain⟨y',FK,ry⟩:=rl.get ey
    exact uS pins s σ H _ _ v us Q I rx rs ⟨_,_,_,rfl,rfl,hv,FK,k _ _ _ _ q (ry.mono (.mut hv trivial)) (rS.put hv trivial ⟨_,ax,rl.dropLast.mono (.mut hv trivial)⟩) (.mut hv trivial)⟩
   ·exact q.elim
  ·exact q.elim
 ·split at q
  ·rename_i e
   obtain⟨h1,h2,q⟩:=q
   split at q
   ·rename_i ej
    split at q
    ·rename_i ey
     cases r1
     cases rp with
     |cons b rr=>
      cases rr;cases b
      obtain⟨vs,hv,rl⟩:=rS _ _ e
      obtain⟨y',FK,ry⟩:=rl.get ey
      rw[<-rl.length]at ej
      exact o7 pins s σ H _ _ v us Q I rx rs ⟨_,_,_,_,_,rfl,rfl,hv,h1,h2,ej,FK,k _ _ _ _ q (ry.mono (.mut hv trivial)) (rS.put hv trivial ⟨_,ax,(rl.eraseIdx _).mono (.mut hv trivial)⟩) (.mut hv trivial)⟩
    ·exact q.elim
   ·exact q.elim
  ·exact q.elim
 ·exact q.elim⟩
noncomputable def texts:List PV->Option (List Str)
 |[]=>some []
 | .str b::r=>(texts r).map (b::·)
 |_::_=>none
theorem jd{K:Vo}{H:Hp}:∀{vs:List V} {ps:List PV} {bs:Vs},Reps K H vs ps->texts ps=some bs->vs=bs.map V.str
 |_,_,_,.nil,h=>by cases h;rfl
 |_,_,bs,.cons (p:=p) a r,h=>by
  cases p with
  |str b=>
   cases a
   unfold texts at h
   cases e:texts _ with
   |none=>rw[e]at h;cases h
   |some l=>rw[e]at h;cases h;rw[jd r e];rfl
  |_=>cases h
def j4:mn:=fun x ps S Q=>match x,ps with
 | .str z,[.ref a]=>(match S a with|some (.lst xs)=>(match texts xs with|some ys=>(ys.map (·.length)).sum+ys.length * z.length<=1000000/\Q (.str (Txt.join z ys)) S|none=>False)|_=>False)
 |_,_=>False
def qc:oH X "str.join" j4:=⟨fun pins s σ H x xs v us Q I rx rs ⟨px,ps,S,Q3,r1,rp,rS,q,k⟩=>by
 unfold j4 at q
 split at q
 ·split at q
  ·rename_i e
   split at q
   ·rename_i et
    cases r1
    cases rp with
    |cons b rr=>
     cases rr;cases b
     obtain⟨vs,hv,rl⟩:=rS _ _ e
     have e2:=jd rl et
     subst e2
     exact sf pins s σ H _ _ v us Q I rx rs ⟨_,_,_,rfl,rfl,SqL.of hv,q.1,k _ S _ H q.2 (.str _) rS .refl⟩
   ·exact q.elim
  ·exact q.elim
 ·exact q.elim⟩
def gM:mn:=fun x ps S Q=>match x,ps with
 | .str a,[.str b]=>(match Builtin.Str.occurrences a b 0 a.length 1 with|i::_=>Q (.int i) S|[]=>False)
 |_,_=>False
def sC:oH X "str.index" gM:=⟨fun pins s σ H x xs v us Q I rx rs ⟨px,ps,S,Q3,r1,rp,rS,q,k⟩=>by
 unfold gM at q
 split at q
 ·split at q
  ·rename_i e
   cases r1
   cases rp with
   |cons b rr=>
    cases rr;cases b
    exact pD pins s σ H _ _ v us Q I rx rs ⟨_,_,_,_,rfl,rfl,e,k _ S _ H q (.int _) rS .refl⟩
  ·exact q.elim
 ·exact q.elim⟩
end
section
variable {X:Cx} {e c:Expr} {te:aO} {st:Stmt} {rest a b:List Stmt} {t u:bC} {tc:il} {pos:Pos}
def aN:bC:=fun D σ S=>D.nx σ S
def af(t u:bC):bC:=fun D σ S=>t { D with nx:=u D } σ S
def aI:gJ X [] aN:=⟨mY rj fun D σ H ⟨σ3,S,D3,rσ,rS,h,xo,n,r,bk,ct⟩=>n σ3 S σ H h rσ rS .refl⟩
def ab(h1:ma X st t)(h2:gJ X rest u):gJ X (st::rest) (af t u):=
 ⟨mY (oN h1.ok h2.ok) fun D σ H ⟨σ3,S,D3,rσ,rS,h,xo,n,r,bk,ct⟩=>⟨σ3,S,{ D3 with nx:=u D3 },rσ,rS,h,xo,fun σ4 S' σ' H' h' Du By g=>⟨σ4,S',D3,Du,By,h',xo.mono g,n.mono g,r.mono g,bk.mono g,ct.mono g⟩,r,bk,ct⟩⟩
def ak(h1:ma X st t):gJ X [st] t:=⟨rm h1.ok⟩
def aY(te:aO):bC:=fun D σ S=>te σ S (fun _ S1=>D.nx σ S1) D.ex
def bB(he:aX X e te)(hs:swapsWith e none pos.line X.env=pure false:=by rfl):ma X (.Expr e pos) (aY te):=
 ⟨cE (rn he.ok hs) fun D σ H ⟨σ3,S,D3,rσ,rS,h,xo,n,r,bk,ct⟩=>⟨σ3,S,_,D3.ex,rσ,rS,h,xo,fun p S1 v H1 h1 rv z0 g1=>n σ3 S1 σ H1 h1 (rσ.mono g1) z0 g1⟩⟩
def ay(te:aO):bC:=fun D σ S=>te σ S D.rt D.ex
def au(he:aX X e te):ma X (.Return (some e) pos) (ay te):=
 ⟨cE (ur he.ok) fun D σ H ⟨σ3,S,D3,rσ,rS,h,xo,n,r,bk,ct⟩=>⟨σ3,S,D3.rt,D3.ex,rσ,rS,h,xo,r⟩⟩
def bq(c:il)(t u:bC):bC:=fun D σ S=>c σ S (fun b S1=>if b=true then t D σ S1 else u D σ S1) D.ex
def bd(hc:l_ X c tc)(ha:gJ X a t)(hb:gJ X b u):ma X (.If c a b pos) (bq tc t u):=
 ⟨cE (wm hc.ok ha.ok hb.ok) fun D σ H ⟨σ3,S,D3,rσ,rS,h,xo,n,r,bk,ct⟩=>⟨σ3,S,_,D3.ex,rσ,rS,h,xo,fun z S1 H1 h1 z0 g1=>by
  cases z with
  |true=>rw[if_pos rfl]at h1 ⊢;exact⟨σ3,S1,D3,rσ.mono g1,z0,h1,xo.mono g1,n.mono g1,r.mono g1,bk.mono g1,ct.mono g1⟩
  |false=>rw[if_neg (by decide)]at h1 ⊢;exact⟨σ3,S1,D3,rσ.mono g1,z0,h1,xo.mono g1,n.mono g1,r.mono g1,bk.mono g1,ct.mono g1⟩⟩⟩
def aq(i:Nat)(te:aO):bC:=fun D σ S=>te σ S (fun v S1=>D.nx (σ.set i (some v)) S1) D.ex
def qd{i:Nat}{D:lU}{σ:L2.St}{H:Hp}:LS X (aq i te) D σ H->rC (LE X te) (k8 i) D σ H:=fun⟨σ3,S,D3,rσ,rS,h,xo,n,r,bk,ct⟩=>
 ⟨σ3,S,_,D3.ex,rσ,rS,h,xo,fun p S1 v H1 h1 rv z0 g1=>n _ S1 _ H1 h1 ((rσ.mono g1).set rv i) z0 g1⟩
def xc{i:Nat}{x:Str}{pos':Pos}(hN:X.N.Nodup)(hi:X.N[i]?=some x)(hx:tH X.env.scope x)(he:aX X e te)(hs:swapsWith e (some (.Name x pos')) pos.line X.env=pure false:=by rfl)
  (hf:X.fn x=true\/X.env.scope.names.lookup x=some .local:=by first|exact .inl rfl|exact .inr rfl|assumption):ma X (.Assign [.Name x pos'] e pos) (aq i te):=⟨cE (ux hN hi hx he.ok hs hf) fun _ _ _=>qd⟩
def n_(i j:Nat)(ta tb:aO):bC:=fun D σ S=>ta σ S (fun v S1=>tb σ S1 (fun w S2=>D.nx ((σ.set i (some v)).set j (some w)) S2) D.ex) D.ex
def tX{i j:Nat}{x y:Str}{a b:Expr}{ta tb:aO}{px py pt:Pos}{kt k2 Eb}(hc:X.calm=true)(hN:X.N.Nodup)(hi:X.N[i]?=some x)(hj:X.N[j]?=some y)(hij:i≠j)
  (hx:X.env.scope.names.lookup x=some .local) (hy:X.env.scope.names.lookup y=some .local) (ha:iD X [a,b] [ta,tb])
  (hw:swappedStores [.Tuple [.Name x px,.Name y py] kt pt] (.Tuple [a,b] k2 Eb) X.env=pure (some [x,y]):=by rfl)
  (hs:swapsWithSole [.Tuple [.Name x px,.Name y py] kt pt] (.Tuple [a,b] k2 Eb) pos.line X.env=pure false:=by rfl) :
  ma X (.Assign [.Tuple [.Name x px,.Name y py] kt pt] (.Tuple [a,b] k2 Eb) pos) (n_ i j ta tb):=
 ⟨cE (uy hc hN hi hj hij hx hy ha.ok hw hs) fun D σ H ⟨σ3,S,D3,rσ,rS,h,xo,n,r,bk,ct⟩=>
  ⟨σ3,S,_,D3.ex,rσ,rS,h,xo,fun v S1 v' H1 h1 rv z0 g1=>⟨σ3,S1,_,D3.ex,rσ.mono g1,z0,h1,xo.mono g1,fun w S2 w' H2 h2 rw' Bn g2=>
   ⟨v',w',rfl,n _ S2 _ H2 h2 (((rσ.mono (g1.trans g2)).set (rv.mono g2) i).set rw' j) Bn (g1.trans g2)⟩⟩⟩⟩
def je(i j k:Nat)(te:aO):bC:=fun D σ S=>te σ S (fun p S1=>match p with | .tup [v,w,u]=>D.nx (((σ.set k (some u)).set j (some w)).set i (some v)) S1|_=>False) D.ex
def sD{i j k:Nat}{x y z:Str}{px py pz pt:Pos}{kt:Nat}(hc:X.calm=true)(hN:X.N.Nodup)(hi:X.N[i]?=some x)(hj:X.N[j]?=some y)(hk:X.N[k]?=some z)
  (hx:X.env.scope.names.lookup x=some .local) (hy:X.env.scope.names.lookup y=some .local) (hz:X.env.scope.names.lookup z=some .local) (he:aX X e te)
  (hw:swappedStores [.Tuple [.Name x px,.Name y py,.Name z pz] kt pt] e X.env=pure (some [x,y,z]):=by rfl)
  (hs:swapsWithSole [.Tuple [.Name x px,.Name y py,.Name z pz] kt pt] e pos.line X.env=pure false:=by rfl):ma X (.Assign [.Tuple [.Name x px,.Name y py,.Name z pz] kt pt] e pos) (je i j k te):=
 ⟨cE (pE hc hN hi hj hk hx hy hz he.ok hw hs) fun D σ H ⟨σ3,S,D3,rσ,rS,h,xo,n,r,bk,ct⟩=>⟨σ3,S,_,D3.ex,rσ,rS,h,xo,fun p S1 v H1 h1 rv z0 g1=>by
  try dsimp only at h1
  split at h1
  ·cases rv with
   |tup hq rs=>
    cases rs with
    |cons r1 rs=>
     cases rs with
     |cons r2 rs=>
      cases rs with
      |cons r3 rs=>
       cases rs
       exact⟨_,_,_,_,rfl,hq,n _ S1 _ H1 h1 ((((rσ.mono g1).set r3 k).set r2 j).set r1 i) z0 g1⟩
  ·exact h1.elim⟩⟩
inductive Tg where
 |n (i:Nat)|tp (l:Tg)|nil|cons (a r:Tg)
mutual
noncomputable def Tg.put:Tg->PV->b5->Option b5
 | .n i,p,σ=>some (σ.set i (some p))
 | .tp l,.tup xs,σ=>l.zV xs σ
 |_,_,_=>none
noncomputable def Tg.zV:Tg->List PV->b5->Option b5
 | .nil,[],σ=>some σ
 | .cons a r,x::xs,σ=>(match a.put x σ with|some σ'=>r.zV xs σ'|none=>none)
 |_,_,_=>none
end
noncomputable def Tg.len:Tg->Nat
 | .cons _ r=>r.len+1
 |_=>0
mutual
noncomputable def Tg.g2(K:Vo):Tg->TG
 | .n i=>k8 i
 | .tp l=>wq K l.len (l.DP K)
 |_=>fun _ _ _ _=>False
noncomputable def Tg.DP(K:Vo):Tg->tI
 | .nil=>wo
 | .cons a r=>tJ (a.g2 K) (r.DP K)
 |_=>fun _ _ _ _=>False
end
noncomputable def Tg.under(own:Nat):Tg->Bool
 | .n i=>decide (i < own)
 | .tp l=>l.under own
 | .nil=>true
 | .cons a r=>a.under own&&r.under own
theorem Tg.Ae:∀(g:Tg) {ps:List PV} {σ3 σ4:b5},g.zV ps σ3=some σ4->ps.length=g.len
 | .nil,ps,σ3,σ4,h=>by
  cases ps with
  |nil=>rfl
  |cons _ _=>unfold Tg.zV at h;cases h
 | .cons a r,ps,σ3,σ4,h=>by
  cases ps with
  |nil=>unfold Tg.zV at h;cases h
  |cons x xs=>
   unfold Tg.zV at h
   split at h
   ·rw[Ih,Tg.Ae r h];rfl
   ·cases h
 | .n _,ps,σ3,σ4,h=>by unfold Tg.zV at h;cases h
 | .tp _,ps,σ3,σ4,h=>by unfold Tg.zV at h;cases h
mutual
theorem Tg.Ci{K:Vo}{H:Hp}{own:Nat}:∀(g:Tg) {v:V} {p:PV} {σ:L2.St} {σ3 σ4:b5} {Q:L2.St->Hp->Prop},Rep K H v p->zZ K H σ σ3->g.put p σ3=some σ4->(∀σ',zZ K H σ' σ4->(g.under own=true->σ'.drop own=σ.drop own)->Q σ' H)->g.g2 K v σ H Q
 | .n i,v,p,σ,σ3,σ4,Q,r,rσ,h,k=>by
  unfold Tg.put at h
  cases h
  unfold Tg.g2
  refine k _ (rσ.set r i) fun hb=>?_
  have hi:i < own:=of_decide_eq_true hb
  rw[List.drop_set]
  rw[if_pos hi]
 | .tp l,v,p,σ,σ3,σ4,Q,r,rσ,h,k=>by
  cases p with
  |tup xs=>
   unfold Tg.put at h
   cases r with
   |tup hq rs=>
    have hg:=Tg.CT (own:=own) l rs rσ h k
    unfold Tg.g2
    exact⟨_,_,rfl,hq,rs.length.trans (Tg.Ae l h),hg⟩
  |_=>unfold Tg.put at h;cases h
 | .nil,v,p,σ,σ3,σ4,Q,r,rσ,h,k=>by unfold Tg.put at h;cases h
 | .cons _ _,v,p,σ,σ3,σ4,Q,r,rσ,h,k=>by unfold Tg.put at h;cases h
theorem Tg.CT{K:Vo}{H:Hp}{own:Nat}:∀(g:Tg) {vs:List V} {ps:List PV} {σ:L2.St} {σ3 σ4:b5} {Q:L2.St->Hp->Prop},Reps K H vs ps->zZ K H σ σ3->g.zV ps σ3=some σ4->(∀σ',zZ K H σ' σ4->(g.under own=true->σ'.drop own=σ.drop own)->Q σ' H)->g.DP K vs σ H Q
 | .nil,vs,ps,σ,σ3,σ4,Q,r,rσ,h,k=>by
  cases ps with
  |nil=>
   unfold Tg.zV at h
   cases h
   cases r
   unfold Tg.DP
   exact⟨rfl,k _ rσ fun _=>rfl⟩
  |cons _ _=>unfold Tg.zV at h;cases h
 | .cons a r',vs,ps,σ,σ3,σ4,Q,r,rσ,h,k=>by
  cases ps with
  |nil=>unfold Tg.zV at h;cases h
  |cons x xs=>
   unfold Tg.zV at h
   split at h
   ·rename_i σ5 e5
    cases r with
    |cons r1 r2=>
     unfold Tg.DP
     refine⟨_,_,rfl,Tg.Ci (own:=own) a r1 rσ e5 fun σ' Du d1=>Tg.CT (own:=own) r' r2 Du h fun G5 FL d2=>k G5 FL fun hb=>?_⟩
     have hb':a.under own=true/\r'.under own=true:=by simpa [Tg.under]using hb
     rw[d2 hb'.2,d1 hb'.1]
   ·cases h
 | .n _,vs,ps,σ,σ3,σ4,Q,r,rσ,h,k=>by unfold Tg.zV at h;cases h
 | .tp _,vs,ps,σ,σ3,σ4,Q,r,rσ,h,k=>by unfold Tg.zV at h;cases h
end
structure qZ (X:Cx) (e:Expr) (g:Tg):Prop where
 ok:PG X e (g.g2 X.K)
structure sE (X:Cx) (es:List Expr) (g:Tg):Prop where
 ok:wn X es (g.DP X.K)
 len:(assignEach es X.env).length=g.len
def zE(i:Nat){x:Str}(hN:X.N.Nodup)(hi:X.N[i]?=some x)(hx:tH X.env.scope x)(hf:X.fn x=true\/X.env.scope.names.lookup x=some .local:=by first|exact .inl rfl|exact .inr rfl|assumption):qZ X (.Name x pos) (.n i):=⟨by
 have h:=rA (pos:=pos) hN hi hx hf
 unfold Tg.g2
 exact h⟩
def dz:sE X [] .nil:=⟨by unfold Tg.DP;exact rB,rfl⟩
def aS{es:List Expr}{a r:Tg}(h1:qZ X e a)(h2:sE X es r)(hs:(assignEach (e::es) X.env).map (·.2)=assign e X.env::(assignEach es X.env).map (·.2):=by rfl)(hl:(assignEach (e::es) X.env).length=(assignEach es X.env).length+1:=by rfl):sE X (e::es) (.cons a r):=
 ⟨by unfold Tg.DP;exact oO h1.ok h2.ok hs,by rw[hl,h2.len];rfl⟩
def oa{es:List Expr}{k:Nat}{l:Tg}(hc:X.calm=true)(h:sE X es l)(hst:(assignEach es X.env).findIdx? (·.1)=none:=by rfl):qZ X (.Tuple es k pos) (.tp l):=⟨by
 have h:=uu (pos:=pos) (k:=k) hc h.ok h.len hst
 unfold Tg.g2
 exact h⟩
def qe(te:aO)(g:Tg):bC:=fun D σ S=>te σ S (fun v S1=>match g.put v σ with|some σ'=>D.nx σ' S1|none=>False) D.ex
def xg{tg:Expr}{g:Tg}(he:aX X e te)(hg:qZ X tg g)(hs:swapsWithSole [tg] e pos.line X.env=pure false:=by rfl)(hw:swappedStores [tg] e X.env=pure none:=by rfl)
  (h1:(assignEach [tg] X.env).map (·.2)=[assign tg X.env]:=by rfl):ma X (.Assign [tg] e pos) (qe te g):=
 ⟨cE (oP he.ok hg.ok hs hw h1) fun D σ H ⟨σ3,S,D3,rσ,rS,h,xo,n,r,bk,ct⟩=>⟨σ3,S,_,D3.ex,rσ,rS,h,xo,fun p S1 v H1 h1 rv z0 g1=>by
  try dsimp only at h1
  split at h1
  ·rename_i σ' e'
   exact Tg.Ci (own:=0) g rv (rσ.mono g1) e' fun σ2 G6 _=>n _ S1 _ H1 h1 G6 z0 g1
  ·exact h1.elim⟩⟩
end
noncomputable def gN{κ:Type} [DecidableEq κ](kvs:List (κ×PV))(k:κ)(v:PV):List (κ×PV):=
 if (kvs.any fun kv=>decide (kv.1=k))=true then kvs.map (fun kv=>if kv.1=k then (kv.1,v) else kv) else kvs++[(k,v)]
theorem Af.append{K:Vo}{H:Hp}{κ:Type}:∀{vs us:List (κ×V)} {ps qs:List (κ×PV)},Af K H vs ps->Af K H us qs->Af K H (vs++us) (ps++qs)
 |_,_,_,_,.nil,s=>s
 |_,_,_,_,.cons a r,s=>.cons a (Af.append r s)
def Af.put{K:Vo}{H:Hp}{κ:Type} [DecidableEq κ]{k:κ}{v:V}{p:PV}(q:Rep K H v p){vs:List (κ×V)}{ps:List (κ×PV)}(r:Af K H vs ps):Af K H (d6 vs k v) (gN ps k p):=by
 have e:(vs.any fun kv=>decide (kv.1=k))=(ps.any fun kv=>decide (kv.1=k)):=by rw[iW,r.any]
 unfold d6 gN
 rw[e]
 split
 ·clear e
  rename_i h
  clear h
  induction r with
  |nil=>exact .nil
  |@cons k' v' p' vs' ps' a r ih=>
   rw[Io,Io]
   by_cases z:k'=k
   ·rw[if_pos z,if_pos z];exact .cons q ih
   ·rw[if_neg z,if_neg z];exact .cons a ih
 ·exact r.append (.cons q .nil)
def gP(o i v:PV)(S:ar)(Q:ar->Prop):Prop:=match o with
 | .ref a=>(match S a with
  |some (.lst xs)=>(match i with | .int k=>(match nI xs.length k with|some j=>Q (zS S a (.lst (xs.set j v)))|none=>False)|_=>False)
  |some (.dct kvs)=>(match gL i with|some k=>kvs.length < sizeLine/\Q (zS S a (.dct (gN kvs k v)))|none=>False)
  |_=>False)
 |_=>False
section
variable {X:Cx} {e o i:Expr} {te to ti:aO} {pos pos':Pos}
noncomputable def yP(X:Cx):V->V->V->Hp->(Hp->Prop)->Prop:=fun o i v H Q=>∃po pi pv S Q3,Rep X.K H o po/\Rep X.K H i pi/\Rep X.K H v pv/\zY X.K H S/\gP po pi pv S Q3/\∀S' H',Q3 S'->zY X.K H' S'->Grow X.K H H'->Q H'
def vm(hu:X.A.units+1 < cLine):rq X (yP X):=by
 intro pins s σ H o i v ov iv u Q I ro ri rv ⟨po,pi,pv,S,Q3,r1,r2,r3,rS,q,k⟩
 unfold gP at q
 split at q
 ·split at q
  ·rename_i e
   split at q
   ·split at q
    ·rename_i ej
     cases r1;cases r2
     obtain⟨vs,hv,rl⟩:=rS _ _ e
     rw[<-rl.length]at ej
     exact o0 pins s σ H _ _ _ ov iv u Q I ro ri rv ⟨_,_,_,_,rfl,rfl,hv,ej,k _ _ q (rS.put hv trivial ⟨_,ax,((rl.set r3 _).mono (.mut hv trivial))⟩) (.mut hv trivial)⟩
    ·exact q.elim
   ·exact q.elim
  ·rename_i e
   split at q
   ·rename_i ek
    cases r1
    have e1:=cm r2 ek
    subst e1
    obtain⟨kv,hv,rk⟩:=rS _ _ e
    exact pX hu pins s σ H _ _ _ ov iv u Q I ro ri rv ⟨_,_,rfl,Dh.k hv (by rw[rk.length];exact q.1),k _ _ q.2 (rS.put hv trivial ⟨_,ax,(rk.put r3).mono (.mut hv trivial)⟩) (.mut hv trivial)⟩
   ·exact q.elim
  ·exact q.elim
 ·exact q.elim
def kM(te to ti:aO):bC:=fun D σ S=>te σ S (fun v S1=>to σ S1 (fun o S2=>ti σ S2 (fun i S3=>gP o i v S3 (fun S4=>D.nx σ S4)) D.ex) D.ex) D.ex
def lr(hu:X.A.units+1 < cLine)(he:aX X e te)(ho:aX X o to)(hi:aX X i ti)
  (ha:∀v,assign (.Subscript o i pos') X.env v=(do
   let ov <-holding [v] (eval o X.env)
   let iv <-holding [v,ov] (eval i X.env)
   standAt pos'
   holding [v,ov,iv] (setItem ov iv v)
   release [v,ov,iv] []):=by intro _;rfl)
  (hs:swapsWithSole [.Subscript o i pos'] e pos.line X.env=pure false:=by rfl) (hw:swappedStores [.Subscript o i pos'] e X.env=pure none:=by rfl)
  (h1:(assignEach [.Subscript o i pos'] X.env).map (·.2)=[assign (.Subscript o i pos') X.env]:=by rfl):ma X (.Assign [.Subscript o i pos'] e pos) (kM te to ti):=
 ⟨cE (oP he.ok (uv ho.ok hi.ok (vm hu) ha) hs hw h1) fun D σ H ⟨σ3,S,D3,rσ,rS,h,xo,n,r,bk,ct⟩=>⟨σ3,S,_,D3.ex,rσ,rS,h,xo,fun v S1 v' H1 h1 rv z0 g1=>
  ⟨σ3,S1,_,D3.ex,rσ.mono g1,z0,h1,xo.mono g1,fun o S2 o' H2 h2 ro Bn g2=>⟨σ3,S2,_,D3.ex,rσ.mono (g1.trans g2),Bn,h2,xo.mono (g1.trans g2),fun i S3 i' H3 h3 ri Dt g3=>
   ⟨o,i,v,S3,_,ro.mono g3,ri,rv.mono (g2.trans g3),Dt,h3,fun S4 H4 h4 G7 g4=>n _ S4 _ H4 h4 (rσ.mono (g1.trans (g2.trans (g3.trans g4)))) G7 (g1.trans (g2.trans (g3.trans g4)))⟩⟩⟩⟩⟩
end
end L3
namespace L2
open PySem PySem.Spec PyProof.Rows
section
variable {X:Cx} {tg:Expr}
def yQ(K:Vo)(tl:TE):TI:=fun σ H R=>tl σ H fun x H1=>(∃a,x = .ref a/\(∃xs,SqL K H1 a xs)/\R (xP K a) H1)\/(∃a,x = .ref a/\(∃xs,SqT K H1 a xs)/\R (yp K a) H1)\/∃z,x = .str z/\R (yE z) H1
def vn{l:Expr}{tl:TE}(hl:PE X l tl):PI X tg l (yQ X.K tl):=by
 intro pins s σ H R I h
 refine zX (hl pins s σ H _ I h) fun v s1 ⟨x,H1,I1,r1,q1⟩=>?_
 rcases q1 with⟨a,e,⟨xs,hq⟩,q⟩|⟨a,e,⟨xs,hq⟩,q⟩|⟨z,e,q⟩
 ·subst e
  cases r1
  obtain⟨its,rv,p,hz⟩:=I1.list hq
  refine JU p.isList ?_
  refine⟨s1.heap.objs.size,[s1.heap.objs.size],_,_,H1,rfl,I1.kept (t':=s1.toks) fun b o e=>HN _ e,nA a _,⟨_,Ia _ rfl,rfl,rfl⟩,fun b hb=>?_,q⟩
  have e:b=s1.heap.objs.size:=by simpa using hb
  subst e
  exact I1.BG (HU _) (I1.hok.fresh (HU _))
 ·subst e
  cases r1
  obtain⟨its,rv,p,hz⟩:=I1.tuple hq
  refine Jj (show s1.heap.IsTuple a its.toArray from p) ?_
  refine⟨s1.heap.objs.size,[s1.heap.objs.size],_,_,H1,rfl,I1.kept (t':=s1.toks) fun b o e=>HN _ e,lV a _,⟨_,Ia _ rfl,rfl,rfl⟩,fun b hb=>?_,q⟩
  have e:b=s1.heap.objs.size:=by simpa using hb
  subst e
  exact I1.BG (HU _) (I1.hok.fresh (HU _))
 ·subst e
  obtain⟨t,rfl⟩:=r1
  have fin:∀ty,(ty = "str_ascii_iterator" \/ ty = "str_iterator")->yo X pins σ tg R (.ref s1.heap.objs.size) { s1 with heap:=s1.heap.push { cls:=.type ty,data:=.fields #[.str z t,.int 0 0] } }:=fun ty hty=>by
   refine⟨s1.heap.objs.size,[s1.heap.objs.size],_,_,H1,rfl,I1.kept (t':=s1.toks) fun b o e=>HN _ e,pC hty _ z t,⟨IA _,_,Ia _ rfl,rfl,rfl⟩,fun b hb=>?_,q⟩
   have e:b=s1.heap.objs.size:=by simpa using hb
   subst e
   exact I1.BG (HU _) (I1.hok.fresh (HU _))
  cases ha:z.cps.all (· < 128)
  ·exact wpAny_pyIter_wide ha (fin _ (.inr rfl))
  ·exact wpAny_pyIter_ascii ha (fin _ (.inl rfl))
def vo(K:Vo)(ta:TA):TI:=fun σ H R=>ta σ H fun vs H1=>∃a,vs=[.ref a]/\(((∃xs,SqL K H1 a xs)/\R (yJ K a) H1)\/((∃xs,SqT K H1 a xs)/\R (yK K a) H1))
def qf{elts:List Expr}{k0:Nat}{BO:Pos}{a:Expr}{ta:TA}{p pos:Pos}(hg:Gl X "enumerate")(hm:X.mg "enumerate" = none)(hv:bootBuiltins "enumerate" = some (.type "enumerate"))(ha:PA X [a] ta)
  (hs:starEach [a] X.env=[(false,eval a X.env)]:=by rfl):PI X (.Tuple elts k0 BO) (.Call (.Name "enumerate" p) [a] [] pos) (vo X.K ta):=by
 intro pins s σ H R I h
 refine Call_ (df I hg hm hv (IC (zX (ha pos pins s σ H _ I h) fun us s1 ⟨vs,H1,I1,r1,q1⟩=>?_) hs rfl))
 obtain⟨a,e,q⟩:=q1
 subst e
 obtain⟨u,rfl,ru⟩:=fY r1
 cases ru
 rcases q with⟨⟨xs,qa⟩,q⟩|⟨⟨xs,qa⟩,q⟩
 ·obtain⟨ia,ra,pa,za⟩:=I1.list qa
  refine call_enumerate_list pa.isList fun g ge g1 gz kk=>?_
  refine K1 (s:={ s1 with heap:=g }) ge ?_
  refine⟨_,[s1.heap.objs.size+1,s1.heap.objs.size],_,_,H1,rfl,I1.kept (t':=s1.toks) kk,nX (Nat.succ_ne_self _),⟨⟨_,ge⟩,g1⟩,fun c hc=>?_,q⟩
  have hle:s1.heap.objs.size<=c:=by
   simp only[HW,Il,Jc]at hc
   rcases hc with rfl|rfl
   ·exact JW _ _
   ·exact HU _
  exact I1.BG hle (I1.hok.fresh hle)
 ·obtain⟨ia,ra,pa,za⟩:=I1.tuple qa
  have la:a < s1.heap.objs.size:=by obtain⟨o,e,_⟩:=pa;exact HS e
  refine Et.i0 (show s1.heap.IsTuple a ia.toArray from pa) fun g ge g1 kk=>?_
  refine K1 (s:={ s1 with heap:=g }) ge ?_
  refine⟨_,[s1.heap.objs.size+1,s1.heap.objs.size],_,_,H1,rfl,I1.kept (t':=s1.toks) kk,l8 (Nat.succ_ne_self _) (Iq (Nat.lt_succ_of_lt la)) (Iq la),⟨⟨_,ge⟩,g1⟩,fun c hc=>?_,q⟩
  have hle:s1.heap.objs.size<=c:=by
   simp only[HW,Il,Jc]at hc
   rcases hc with rfl|rfl
   ·exact JW _ _
   ·exact HU _
  exact I1.BG hle (I1.hok.fresh hle)
end
end L2
namespace L3
open PySem L2
structure xX where
 items:List PV
 keep:ar->Prop
def gc(K:Vo)(H0:Hp)(J:It)(src:xX):Prop:=∀(i:Nat) (S:ar) (H:Hp),Grow K H0 H->zY K H S->src.keep S->
 (∀p,src.items[i]?=some p->J.go i H/\∀x H',J.E5 i H x H'->Rep K H' x p/\zY K H' S/\Grow K H H')/\(i=src.items.length->J.stop i H)
abbrev qg:=b5->ar->(xX->ar->Prop)->cz->Prop
inductive LI (X:Cx) (t:qg) (σ:L2.St) (H:Hp) (R:It->Hp->Prop):Prop
 |mk (σ3 S R3 E3) (rσ:zZ X.K H σ σ3) (rS:zY X.K H S) (h:t σ3 S R3 E3) (xo:C9 X H E3) (k:∀src S' J H',R3 src S'->gc X.K H' J src->zY X.K H' S'->Grow X.K H H'->R J H'):LI X t σ H R
structure sF (X:Cx) (tg iter:Expr) (t:qg):Prop where
 ok:PI X tg iter (LI X t)
def kN{X:Cx}{tg iter:Expr}{t t':TI}(h:PI X tg iter t)(k:∀σ H R,t' σ H R->t σ H R):PI X tg iter t':=fun pins s σ H R I q=>h pins s σ H R I (k σ H R q)
section
variable {X:Cx} {e tg:Expr} {es:List Expr} {te:aO} {ts:List aO} {p pos:Pos}
noncomputable def cj(S:ar):PV->Option xX
 | .tup xs=>some ⟨xs,fun _=>True⟩
 | .cl xs=>some ⟨xs,fun _=>True⟩
 | .str z=>some ⟨z.cps.toList.map fun c=>.str (kE c),fun _=>True⟩
 | .ref a=>(match S a with|some (.lst xs)=>some ⟨xs,fun S'=>S' a=some (.lst xs)⟩|_=>none)
 |_=>none
def a_(te:aO):qg:=fun σ S R E=>te σ S (fun v S1=>match cj S1 v with|some src=>R src S1|none=>False) E
end
section
variable {X:Cx} {e tg a b:Expr} {es:List Expr} {te ta tb:aO} {ts:List aO} {p pos:Pos}
def qh{K:Vo}{H0:Hp}{a:Addr}{xs:List PV}:gc K H0 (xP K a) ⟨xs,fun S'=>S' a=some (.lst xs)⟩:=by
 intro i S H g rS hk
 obtain⟨vs,hv,rs⟩:=rS a _ hk
 refine⟨fun p hp=>?_,fun hi=>⟨vs,SqL.of hv,by rw[rs.length,hi];exact HU _⟩⟩
 obtain⟨v,hx,rv⟩:=rs.get hp
 refine⟨⟨vs,v,SqL.of hv,hx⟩,fun x H' ⟨e,h⟩=>?_⟩
 subst e
 have:=h vs (SqL.of hv)
 rw[hx]at this
 cases this
 exact⟨rv,rS,.refl⟩
def sG{K:Vo}{H0:Hp}{a:Addr}{vs:List V}{xs:List PV}(h:SqT K H0 a vs)(rs:Reps K H0 vs xs):gc K H0 (yp K a) ⟨xs,fun _=>True⟩:=by
 intro i S H g rS _
 have hv:=g.t _ _ h
 refine⟨fun p hp=>?_,fun hi=>⟨vs,hv,by rw[rs.length,hi];exact HU _⟩⟩
 obtain⟨v,hx,rv⟩:=rs.get hp
 refine⟨⟨vs,v,hv,hx⟩,fun x H' ⟨e,h⟩=>?_⟩
 subst e
 have:=h vs hv
 rw[hx]at this
 cases this
 exact⟨rv.mono g,rS,.refl⟩
def vp{K:Vo}{H0:Hp}{a:Addr}{vs:List V}{xs:List PV}(h:Ez K H0 a vs)(rs:Reps K H0 vs xs):gc K H0 (xP K a) ⟨xs,fun _=>True⟩:=by
 intro i S H g rS _
 have hv:=(g.c _ _ h).sq
 refine⟨fun p hp=>?_,fun hi=>⟨vs,hv,by rw[rs.length,hi];exact HU _⟩⟩
 obtain⟨v,hx,rv⟩:=rs.get hp
 refine⟨⟨vs,v,hv,hx⟩,fun x H' ⟨e,h⟩=>?_⟩
 subst e
 have:=h vs hv
 rw[hx]at this
 cases this
 exact⟨rv.mono g,rS,.refl⟩
def sH{K:Vo}{H0:Hp}{z:Str}:gc K H0 (yE z) ⟨z.cps.toList.map fun c=>.str (kE c),fun _=>True⟩:=by
 intro i S H g rS _
 refine⟨fun p hp=>?_,fun hi=>by show z.cps.size<=i;rw[hi,HM,Lk];exact HU _⟩
 rw[HY]at hp
 cases hc:z.cps.toList[i]? with
 |none=>rw[hc]at hp;cases hp
 |some c=>
  rw[hc]at hp
  cases hp
  have hc':z.cps[i]?=some c:=by simpa using hc
  refine⟨?_,fun x H' ⟨e,c',h1,h2⟩=>?_⟩
  ·show i < z.cps.size
   by_cases hi:i < z.cps.size
   ·exact hi
   ·rw[J5 (by omega)]at hc';cases hc'
  ·subst e
   rw[hc']at h1
   cases h1
   subst h2
   exact⟨.str _,rS,.refl⟩
def cH(he:aX X e te):sF X tg e (a_ te):=⟨kN (vn he.ok) fun σ H R ⟨σ3,S,R3,E3,rσ,rS,h,xo,k⟩=>⟨σ3,S,_,E3,rσ,rS,h,xo,fun v S1 v' H1 h1 rv z0 g1=>by
 split at h1
 ·rename_i src hs
  unfold cj at hs
  split at hs
  ·cases hs
   cases rv with
   |tup hq rs=>exact .inr (.inl ⟨_,rfl,⟨_,hq⟩,k _ S1 _ H1 h1 (sG hq rs) z0 g1⟩)
  ·cases hs
   cases rv with
   |cl hq rs=>exact .inl ⟨_,rfl,⟨_,hq.sq⟩,k _ S1 _ H1 h1 (vp hq rs) z0 g1⟩
  ·cases hs
   cases rv
   exact .inr (.inr ⟨_,rfl,k _ S1 _ H1 h1 sH z0 g1⟩)
  ·cases rv
   split at hs
   ·rename_i ea
    cases hs
    obtain⟨vs,hv,rs⟩:=z0 _ _ ea
    exact .inl ⟨_,rfl,⟨_,SqL.of hv⟩,k _ S1 _ H1 h1 qh z0 g1⟩
   ·cases hs
  ·cases hs
 ·exact h1.elim⟩⟩
noncomputable def br(lo:Int)(n:Nat):List PV:=(List.range n).map fun(i:Nat)=>PV.int (lo+i)
def og{K:Vo}{H0:Hp}{lo:Int}{n:Nat}:gc K H0 (xQ lo n) ⟨br lo n,fun _=>True⟩:=by
 intro i S H g rS _
 refine⟨fun p hp=>?_,fun hi=>by show n<=i;rw[hi];simp[br]⟩
 unfold br at hp
 rw[HY]at hp
 by_cases hi:i < n
 ·rw[Kw hi]at hp
  cases hp
  refine⟨hi,fun x H' ⟨e,h⟩=>?_⟩
  subst e h
  exact⟨.int _,rS,.refl⟩
 ·rw[Jq (by simpa using hi)]at hp
  cases hp
def jI(ta:aO):qg:=fun σ S R E=>ta σ S (fun v S1=>match v with | .int j=>-(2 ^ 62)<=j/\j < 2 ^ 62/\R ⟨br 0 j.toNat,fun _=>True⟩ S1|_=>False) E
def d_(hs:starEach [a] X.env=[(false,eval a X.env)])(hg:Gl X "range")(hm:X.mg "range" = none)(ha:iD X [a] [ta]):sF X tg (.Call (.Name "range" p) [a] [] pos) (jI ta):=
 ⟨kN (nB hg hm ha.ok hs) fun σ H R ⟨σ3,S,R3,E3,rσ,rS,h,xo,k⟩=>⟨σ3,S,_,E3,rσ,rS,h,xo,fun v S1 v' H1 h1 rv z0 g1=>by
  split at h1
  ·cases rv
   exact⟨_,rfl,h1.1,h1.2.1,k _ S1 _ H1 h1.2.2 og z0 g1⟩
  ·exact h1.elim⟩⟩
noncomputable def aJ(xs:List PV):List PV:=xs.mapIdx fun i x=>.tup [.int i,x]
def oh{K:Vo}{H0:Hp}{a:Addr}{xs:List PV}:gc K H0 (yJ K a) ⟨aJ xs,fun S'=>S' a=some (.lst xs)⟩:=by
 intro i S H g rS hk
 obtain⟨vs,hv,rs⟩:=rS a _ hk
 refine⟨fun p hp=>?_,fun hi=>⟨vs,SqL.of hv,by rw[rs.length,hi];simp[aJ]⟩⟩
 unfold aJ at hp
 rw[Kn]at hp
 cases hx:xs[i]? with
 |none=>rw[hx]at hp;cases hp
 |some y=>
  rw[hx]at hp
  cases hp
  obtain⟨v,hx',rv⟩:=rs.get hx
  refine⟨⟨vs,v,SqL.of hv,hx'⟩,fun x H' ⟨q,x2,e1,hq,e2,h⟩=>?_⟩
  subst e1 e2
  have:=h vs (SqL.of hv)
  rw[hx']at this
  cases this
  exact⟨.tup (SqT.of ax) (.cons (.int _) (.cons (rv.mono (.new hq)) .nil)),rS.other hq,.new hq⟩
def oi{K:Vo}{H0:Hp}{a:Addr}{vs:List V}{xs:List PV}(h0:SqT K H0 a vs)(rs:Reps K H0 vs xs):gc K H0 (yK K a) ⟨aJ xs,fun _=>True⟩:=by
 intro i S H g rS _
 have hv:=g.t _ _ h0
 refine⟨fun p hp=>?_,fun hi=>⟨vs,hv,by rw[rs.length,hi];simp[aJ]⟩⟩
 unfold aJ at hp
 rw[Kn]at hp
 cases hx:xs[i]? with
 |none=>rw[hx]at hp;cases hp
 |some y=>
  rw[hx]at hp
  cases hp
  obtain⟨v,hx',rv⟩:=rs.get hx
  refine⟨⟨vs,v,hv,hx'⟩,fun x H' ⟨q,x2,e1,hq,e2,h⟩=>?_⟩
  subst e1 e2
  have:=h vs hv
  rw[hx']at this
  cases this
  exact⟨.tup (SqT.of ax) (.cons (.int _) (.cons ((rv.mono g).mono (.new hq)) .nil)),rS.other hq,.new hq⟩
def cI(ta:aO):qg:=fun σ S R E=>ta σ S (fun v S1=>match v with
 | .tup xs=>R ⟨aJ xs,fun _=>True⟩ S1
 | .ref a=>(match S1 a with|some (.lst xs)=>R ⟨aJ xs,fun S'=>S' a=some (.lst xs)⟩ S1|_=>False)
 |_=>False) E
def gQ{elts:List Expr}{k0:Nat}{BO:Pos}(hs:starEach [a] X.env=[(false,eval a X.env)])(hg:Gl X "enumerate")(hm:X.mg "enumerate" = none)(hv:bootBuiltins "enumerate" = some (.type "enumerate"))(ha:iD X [a] [ta]):sF X (.Tuple elts k0 BO) (.Call (.Name "enumerate" p) [a] [] pos) (cI ta):=
 ⟨kN (qf hg hm hv ha.ok hs) fun σ H R ⟨σ3,S,R3,E3,rσ,rS,h,xo,k⟩=>⟨σ3,S,_,E3,rσ,rS,h,xo,fun v S1 v' H1 h1 rv z0 g1=>by
  split at h1
  ·cases rv with
   |tup hq rs=>exact⟨_,rfl,.inr ⟨⟨_,hq⟩,k _ S1 _ H1 h1 (oi hq rs) z0 g1⟩⟩
  ·cases rv
   split at h1
   ·rename_i ea
    obtain⟨vs,hv,rs⟩:=z0 _ _ ea
    exact⟨_,rfl,.inl ⟨⟨_,SqL.of hv⟩,k _ S1 _ H1 h1 oh z0 g1⟩⟩
   ·exact h1.elim
  ·exact h1.elim⟩⟩
noncomputable def bc(xs ys:List PV):List PV:=(xs.zip ys).map fun z=>.tup [z.1,z.2]
def C0(K:Vo)(H0:Hp)(ka:Bool)(a:Addr)(xs:List PV)(keep:ar->Prop):Prop:=∀S H,Grow K H0 H->zY K H S->keep S->∃vs,nV ka K H a vs/\Reps K H vs xs
def C0.tup{K:Vo}{H0:Hp}{a:Addr}{vs:List V}{xs:List PV}{keep:ar->Prop}(h:SqT K H0 a vs)(r:Reps K H0 vs xs):C0 K H0 false a xs keep:=fun _ _ g _ _=>⟨vs,g.t _ _ h,r.mono g⟩
theorem C0.lst{K:Vo}{H0:Hp}{a:Addr}{xs:List PV}{keep:ar->Prop}(h:∀S,keep S->S a=some (.lst xs)):C0 K H0 true a xs keep:=fun S _ _ rS k=>let ⟨vs,hv,r⟩:=rS _ _ (h S k);⟨vs,SqL.of hv,r⟩
def iN{K:Vo}{H0:Hp}{ka kb:Bool}{a b:Addr}{xs ys:List PV}{keep:ar->Prop}(h1:C0 K H0 ka a xs keep)(h2:C0 K H0 kb b ys keep):gc K H0 (yH ka kb K a b) ⟨bc xs ys,keep⟩:=by
 intro i S H g rS kp
 obtain⟨vs,hv,r1⟩:=h1 S H g rS kp
 obtain⟨us,hu,r2⟩:=h2 S H g rS kp
 have l1:=r1.length
 have l2:=r2.length
 refine⟨fun p hp=>?_,fun hi=>⟨vs,us,hv,hu,?_⟩⟩
 ·unfold bc at hp
  rw[HY]at hp
  cases hz:(xs.zip ys)[i]? with
  |none=>rw[hz]at hp;cases hp
  |some z=>
   rw[hz]at hp
   cases hp
   obtain⟨e1,e2⟩:=Kv.mp hz
   obtain⟨v,hx',rv⟩:=r1.get e1
   obtain⟨u,hy',ru⟩:=r2.get e2
   refine⟨⟨vs,us,v,u,hv,hu,hx',hy'⟩,fun x H' ⟨q,x2,y2,e3,hq,e4,h⟩=>?_⟩
   subst e3 e4
   obtain⟨k1,k2⟩:=h vs us hv hu
   rw[hx']at k1
   rw[hy']at k2
   cases k1;cases k2
   exact⟨.tup (SqT.of ax) (.cons (rv.mono (.new hq)) (.cons (ru.mono (.new hq)) .nil)),rS.other hq,.new hq⟩
 ·have e:(bc xs ys).length=min xs.length ys.length:=by simp[bc]
  rw[e]at hi
  by_cases hle:xs.length<=ys.length
  ·exact .inl (by omega)
  ·exact .inr (by omega)
end
section
variable {X:Cx} {iter tg c:Expr} {body:List Stmt} {ti:qg} {g:Tg} {tb:bC} {tc:il} {pos:Pos}
noncomputable def ls(g:Tg)(tb:bC)(D:ll)(keep:ar->Prop):List PV->b5->ar->Prop
 |[],σ,S=>keep S/\D.nx σ S
 |x::r,σ,S=>keep S/\match g.put x σ with|some σ'=>tb { D with nx:=ls g tb D keep r,ct:=ls g tb D keep r,bk:=D.nx } σ' S|none=>False
def cV(ti:qg)(g:Tg)(tb:bC):bC:=fun D σ S=>ti σ S (fun src S1=>ls g tb D src.keep src.items σ S1) D.ex
def ft(hp:PassesOwn (model X.prog X.w) X.A X.env X.xe)(hc:X.calm=true)(hi:sF X tg iter ti)(hg:qZ X tg g)(hb:gJ X body tb)(hs:∀x,foldedSetIterable iter X.env x=pure x:=by intro _;rfl):ma X (.For tg iter body [] pos) (cV ti g tb):=
 ⟨cE (uA hp hc hi.ok hg.ok hb.ok hs) fun D σ H ⟨σ3,S,D3,rσ,rS,h,xo,n,r,bk,ct⟩=>⟨σ3,S,_,D3.ex,rσ,rS,h,xo,fun src S1 J H1 h1 sim z0 g1=>by
  refine⟨fun i m σ' H'=>i+m=src.items.length/\∃σ4 S',zZ X.K H' σ' σ4/\zY X.K H' S'/\Grow X.K H1 H'/\ls g tb D3 src.keep (src.items.drop i) σ4 S',⟨src.items.length,J7 _,σ3,S1,rσ.mono g1,z0,.refl,by simpa using h1⟩,?_⟩
  rintro i m σ' H' ⟨hm,σ4,S',Du,By,g',hw⟩
  cases hd:src.items.drop i with
  |nil=>
   rw[hd]at hw
   have hi:i=src.items.length:=by
    have:=I9 List.length hd
    rw[IQ,Jo]at this
    omega
   exact .inl ⟨(sim i S' H' g' By hw.1).2 hi,n _ S' _ H' hw.2 Du By (g1.trans g')⟩
  |cons x rest=>
   rw[hd]at hw
   have hx:src.items[i]?=some x:=by
    have:=I9 (fun l=>l[0]?) hd
    simpa using this
   have hrest:src.items.drop (i+1)=rest:=by
    have:=I9 List.tail hd
    simpa [List.tail_drop]using this
   have hlt:i < src.items.length:=by
    by_cases z:i < src.items.length
    ·exact z
    ·rw[Jq (by omega)]at hx;cases hx
   obtain⟨go,yl⟩:=(sim i S' H' g' By hw.1).1 x hx
   refine .inr ⟨go,fun σ5 H5=>∃σ6 S6,zZ X.K H5 σ5 σ6/\zY X.K H5 S6/\Grow X.K H1 H5/\ls g tb D3 src.keep rest σ6 S6,?_,fun v H5 hv=>?_⟩
   ·rintro σ5 H5 ⟨σ6,S6,q1,q2,q3,q4⟩
    exact⟨m - 1,by omega,by omega,σ6,S6,q1,q2,q3,by rw[hrest];exact q4⟩
   ·obtain⟨rv,FM,g5⟩:=yl v H5 hv
    obtain⟨_,hw⟩:=hw
    split at hw
    ·rename_i σ6 e6
     refine Tg.Ci (own:=0) g rv (Du.mono g5) e6 fun σ7 Fa _=>?_
     exact⟨σ6,S',_,Fa,FM,hw,xo.mono (g1.trans (g'.trans g5)),fun σ8 S8 σ9 H9 q1 q2 q3 q4=>⟨σ8,S8,q2,q3,g'.trans (g5.trans q4),q1⟩,r.mono (g1.trans (g'.trans g5)),n.mono (g1.trans (g'.trans g5)),
      fun σ8 S8 σ9 H9 q1 q2 q3 q4=>⟨σ8,S8,q2,q3,g'.trans (g5.trans q4),q1⟩⟩
    ·exact hw.elim⟩⟩
def gR(tc:il)(tb:bC):bC:=fun D σ S=>∃W:Nat->b5->ar->Prop,(∃m,W m σ S)/\∀m σ S,W m σ S->
 tc σ S (fun b S1=>if b=true then ∃N:b5->ar->Prop,(∀σ' S',N σ' S'->∃m',m' < m/\W m' σ' S')/\tb { D with nx:=N,ct:=N,bk:=D.nx } σ S1 else D.nx σ S1) D.ex
def iO(hp:PassesOwn (model X.prog X.w) X.A X.env X.xe)(hc:l_ X c tc)(hb:gJ X body tb):ma X (.While c body [] pos) (gR tc tb):=
 ⟨cE (oQ hp hc.ok hb.ok) fun D σ H ⟨σ3,S,D3,rσ,rS,⟨W,⟨m0,w0⟩,turn⟩,xo,n,r,bk,ct⟩=>by
  refine⟨fun m σ' H'=>∃σ4 S',zZ X.K H' σ' σ4/\zY X.K H' S'/\Grow X.K H H'/\W m σ4 S',⟨m0,σ3,S,rσ,rS,.refl,w0⟩,?_⟩
  rintro m σ' H' ⟨σ4,S',Du,By,g',w'⟩
  refine⟨σ4,S',_,D3.ex,Du,By,turn m σ4 S' w',xo.mono g',fun b S1 H1 h1 z0 g1=>?_⟩
  cases b with
  |true=>
   rw[if_pos rfl]at h1 ⊢
   obtain⟨N,hN,h1⟩:=h1
   refine⟨fun σ5 H5=>∃σ6 S6,zZ X.K H5 σ5 σ6/\zY X.K H5 S6/\Grow X.K H H5/\N σ6 S6,?_,?_⟩
   ·rintro σ5 H5 ⟨σ6,S6,q1,q2,q3,q4⟩
    obtain⟨m',hm,w6⟩:=hN σ6 S6 q4
    exact⟨m',hm,σ6,S6,q1,q2,q3,w6⟩
   ·exact⟨σ4,S1,_,Du.mono g1,z0,h1,xo.mono (g'.trans g1),fun σ8 S8 σ9 H9 q1 q2 q3 q4=>⟨σ8,S8,q2,q3,g'.trans (g1.trans q4),q1⟩,r.mono (g'.trans g1),n.mono (g'.trans g1),
     fun σ8 S8 σ9 H9 q1 q2 q3 q4=>⟨σ8,S8,q2,q3,g'.trans (g1.trans q4),q1⟩⟩
  |false=>
   rw[if_neg (by decide)]at h1 ⊢
   exact n _ S1 _ H1 h1 (Du.mono g1) z0 (g'.trans g1)⟩
end
noncomputable def dD:cz:=fun _ _ _=>False
def C9.no{X:Cx}{H:Hp}:C9 X H dD:=fun _ _ _ _ _ _ _ _ _ _ _ _ _ _ h=>h.elim
section
variable {X:Cx} {elt iter tg c:Expr} {ifs:List Expr} {scope:Scope} {pos:Pos} {ti:qg} {g:Tg} {tc:il} {te:aO} {fs N:Vs} {own:Nat} {fr:List Nat}
noncomputable def cu(g:Tg)(tc:il)(te:aO)(σ':b5)(keep:ar->Prop)(fin:List PV->ar->Prop):List PV->List PV->ar->Prop
 |[],ys,S=>keep S/\ys.length<=sizeLine/\fin ys S
 |x::r,ys,S=>keep S/\ys.length<=sizeLine/\match g.put x σ' with
  |some σ2=>tc σ2 S (fun b S3=>if b=true then te σ2 S3 (fun y S4=>cu g tc te σ' keep fin r (ys++[y]) S4) dD else cu g tc te σ' keep fin r ys S3) dD
  |none=>False
def bQ:il:=fun _ S Q _=>Q true S
structure vZ (X:Cx) (ifs:List Expr) (t:il):Prop where
 ok:PF X ifs (LT X t)
def mr{t t':TT}(h:PF X ifs t)(k:∀σ H Q,t' σ H Q->t σ H Q):PF X ifs t':=fun pins s σ H Q I q=>h pins s σ H Q I (k σ H Q q)
def cX:vZ X [] bQ:=⟨mr u4 fun σ H Q ⟨σ3,S,Q3,E3,rσ,rS,h,xo,k⟩=>k true S H h rS .refl⟩
def qi(h:l_ X c tc):vZ X [c] tc:=⟨u5 h.ok⟩
noncomputable def dG(own:Nat)(fr:List Nat)(σ:b5):b5:=List.replicate own none++fr.map fun j=>lk σ j
def sI{K:Vo}{H:Hp}{σ:L2.St}{σ3:b5}(r:zZ K H σ σ3)(own:Nat)(fr:List Nat):zZ K H (dv own fr σ) (dG own fr σ3):=by
 refine⟨by unfold dv dG;simp,fun i p e=>?_⟩
 unfold dG at e
 unfold dv
 by_cases hi:i < own
 ·rw[IF (by simpa using hi),JA,if_pos hi]at e
  cases e
 ·rw[IM (by simpa using hi),IL,HY]at e ⊢
  cases hj:fr[i - own]? with
  |none=>rw[hj]at e;cases e
  |some j=>
   rw[hj]at e
   simp only[Option.map_some,Ls]at e ⊢
   obtain⟨v,hv,rv⟩:=r.at' j p (pP e)
   exact⟨v,by rw[hv];rfl,rv⟩
def aR(ti:qg)(g:Tg)(tc:il)(te:aO)(own:Nat)(fr:List Nat):aO:=fun σ S Q E=>ti σ S (fun src S1=>cu g tc te (dG own fr σ) src.keep (fun ys S2=>∀p,S2 p=none->Q (.ref p) (zS S2 p (.lst ys))) src.items [] S1) E
def j5{σ:L2.St}{H:Hp}{Q:VK}(Dv:g.under own=true)(B0:Bk):LE X (aR ti g tc te own fr) σ H Q->pq (LI X ti) (g.g2 X.K) (fun σ H Q=>∃σ3 S Q3,zZ X.K H σ σ3/\zY X.K H S/\tc σ3 S Q3 dD/\∀b S' H',Q3 b S'->zY X.K H' S'->Grow X.K H H'->Q b H')
  (fun σ H Q=>∃σ3 S Q3,zZ X.K H σ σ3/\zY X.K H S/\te σ3 S Q3 dD/\C_ X.K H Q3 Q) own fr σ H Q:=fun⟨σ3,S,Q3,E3,rσ,rS,h,xo,k⟩=>by
 refine⟨σ3,S,_,E3,rσ,rS,h,xo,fun src S1 J H1 h1 sim z0 g1=>?_⟩
 refine⟨fun i m ys H'=>i+m=src.items.length/\∃zs S',Reps X.K H' ys zs/\zY X.K H' S'/\Grow X.K H1 H'/\cu g tc te (dG own fr σ3) src.keep (fun ys S2=>∀p,S2 p=none->Q3 (.ref p) (zS S2 p (.lst ys))) (src.items.drop i) zs S',⟨src.items.length,J7 _,[],S1,.nil,z0,.refl,by simpa using h1⟩,?_⟩
 rintro i m ys H' ⟨hm,zs,S',rz,By,g',hw⟩
 cases hd:src.items.drop i with
 |nil=>
  rw[hd]at hw
  have hi:i=src.items.length:=by
   have:=I9 List.length hd
   rw[IQ,Jo]at this
   omega
  refine .inl ⟨(sim i S' H' g' By hw.1).2 hi,by rw[rz.length];exact hw.2.1,fun D hD=>?_⟩
  exact k _ _ _ _ (hw.2.2 D (By.free hD)) (.ref D) (By.new hD ⟨_,ax,rz.mono (.new hD)⟩) (g1.trans (g'.trans (.new hD)))
 |cons x rest=>
  rw[hd]at hw
  have hx:src.items[i]?=some x:=by
   have:=I9 (fun l=>l[0]?) hd
   simpa using this
  have hrest:src.items.drop (i+1)=rest:=by
   have:=I9 List.tail hd
   simpa [List.tail_drop]using this
  have hlt:i < src.items.length:=by
   by_cases z:i < src.items.length
   ·exact z
   ·rw[Jq (by omega)]at hx;cases hx
  obtain⟨go,yl⟩:=(sim i S' H' g' By hw.1).1 x hx
  refine .inr ⟨go,by rw[rz.length];exact hw.2.1,fun ys' H5=>∃zs' S6,Reps X.K H5 ys' zs'/\zY X.K H5 S6/\Grow X.K H1 H5/\cu g tc te (dG own fr σ3) src.keep (fun ys S2=>∀p,S2 p=none->Q3 (.ref p) (zS S2 p (.lst ys))) rest zs' S6,?_,fun v H5 hv=>?_⟩
  ·rintro ys' H5 ⟨zs',S6,q1,q2,q3,q4⟩
   exact⟨m - 1,by omega,by omega,zs',S6,q1,q2,q3,by rw[hrest];exact q4⟩
  ·obtain⟨rv,FM,g5⟩:=yl v H5 hv
   obtain⟨_,_,hw⟩:=hw
   split at hw
   ·rename_i σ6 e6
    refine Tg.Ci (own:=own) g rv ((sI rσ own fr).mono (g1.trans (g'.trans g5))) e6 fun σ7 Fa d7=>⟨d7 Dv,?_⟩
    refine⟨σ6,S',_,Fa,FM,hw,fun b S8 H8 h8 Go g8=>?_⟩
    cases b with
    |true=>
     rw[if_pos rfl]at h8 ⊢
     exact⟨σ6,S8,_,Fa.mono g8,Go,h8,fun y S9 y' H9 h9 ry G8 g9=>⟨zs++[y],S9,(rz.mono (g5.trans (g8.trans g9))).append (.cons ry .nil),G8,g'.trans (g5.trans (g8.trans g9)),h9⟩⟩
    |false=>
     rw[if_neg (by decide)]at h8 ⊢
     exact⟨zs,S8,rz.mono (g5.trans g8),Go,g'.trans (g5.trans g8),h8⟩
   ·exact hw.elim
def vq(fs:Vs)(own:Nat)(fr:List Nat)(N:Vs)(Dv:g.under own=true)(hc:X.calm=true)(hclos:closureFor scope X.env=pure (b4 X.env fs))(hcell:∀y∈scope.names,y.2 ≠ .cell)(hkind:scope.kind = .function)
  (hnames:∀x∈scope.names,x.2 = .local->scope.names.lookup x.1=some .local) (hcl:bR X.env fs) (hhas:kD (relabel scope X.env).names (b4 X.env fs)=true)
  (hlen:N.length=own+fr.length) (hN:(N.drop own).map some=fr.map fun j=>X.N[j]?) (hF:AG X.env scope (b4 X.env fs) (N.drop own))
  (hi:sF X tg iter ti) (hg:∀B,qZ (X.Bv N scope fs B) tg g) (hf:∀B,vZ (X.Bv N scope fs B) ifs tc) (he:∀B,aX (X.Bv N scope fs B) elt te)
  (hs:∀x,foldedSetIterable iter X.env x=pure x:=by intro _;rfl):aX X (.ListComp elt [⟨tg,iter,ifs,0⟩] scope pos) (aR ti g tc te own fr):=
 ⟨aH (r_ fs own fr N hc hclos hcell hkind hnames hcl hhas hlen hN hF hi.ok (fun B=>(hg B).ok)
  (fun B=>mr (hf B).ok fun σ H Q ⟨σ3,S,Q3,rσ,rS,h,k⟩=>⟨σ3,S,Q3,dD,rσ,rS,h,.no,k⟩) (fun B=>aH (he B).ok fun σ H Q ⟨σ3,S,Q3,rσ,rS,h,k⟩=>⟨σ3,S,Q3,dD,rσ,rS,h,.no,k⟩) hs) fun _ _ _=>j5 Dv ⟨0,X.s₀,X.H₀,[],[]⟩⟩
def vt(fs:Vs)(own:Nat)(fr:List Nat)(N:Vs){i:Nat}{y:Str}{py spos:Pos}(hX:X.N.Nodup)(hix:X.N[i]?=some y)(hy:X.env.scope.names.lookup y=some .local)
  (hsw:swapsWith (.ListComp elt [⟨tg,iter,ifs,0⟩] scope pos) (some (.Name y py)) spos.line X.env=pure true)
  (Dv:g.under own=true) (hc:X.calm=true) (hclos:closureFor scope X.env=pure (b4 X.env fs)) (hcell:∀y∈scope.names,y.2 ≠ .cell) (hkind:scope.kind = .function)
  (hnames:∀x∈scope.names,x.2 = .local->scope.names.lookup x.1=some .local) (hcl:bR X.env fs) (hhas:kD (relabel scope X.env).names (b4 X.env fs)=true)
  (hlen:N.length=own+fr.length) (hN:(N.drop own).map some=fr.map fun j=>X.N[j]?) (hF:AG X.env scope (b4 X.env fs) (N.drop own))
  (hi:sF X tg iter ti) (hg:∀B,qZ (X.Bv N scope fs B) tg g) (hf:∀B,vZ (X.Bv N scope fs B) ifs tc) (he:∀B,aX (X.Bv N scope fs B) elt te)
  (hs:∀x,foldedSetIterable iter X.env x=pure x:=by intro _;rfl):ma X (.Assign [.Name y py] (.ListComp elt [⟨tg,iter,ifs,0⟩] scope pos) spos) (aq i (aR ti g tc te own fr)):=
 ⟨cE (sd fs own fr N hX hix hy hsw hc hclos hcell hkind hnames hcl hhas hlen hN hF hi.ok (fun B=>(hg B).ok)
  (fun B=>mr (hf B).ok fun σ H Q ⟨σ3,S,Q3,rσ,rS,h,k⟩=>⟨σ3,S,Q3,dD,rσ,rS,h,.no,k⟩) (fun B=>aH (he B).ok fun σ H Q ⟨σ3,S,Q3,rσ,rS,h,k⟩=>⟨σ3,S,Q3,dD,rσ,rS,h,.no,k⟩) hs)
  fun D σ H ⟨σ3,S,D3,rσ,rS,h,xo,n,r,bk,ct⟩=>j5 Dv ⟨0,X.s₀,X.H₀,[],[]⟩ ⟨σ3,S,_,D3.ex,rσ,rS,h,xo,fun p S1 v H1 h1 rv z0 g1=>n _ S1 _ H1 h1 ((rσ.mono g1).set rv i) z0 g1⟩⟩
end
abbrev aA:=List PV->ar->bF->cz->Prop
noncomputable def xi(K:Vo)(n:Nat)(sp:aA):Sp:=fun vs H Q _=>vs.length=n/\∃ps S Q3 E3,Reps K H vs ps/\zY K H S/\sp ps S Q3 E3/\C_ K H Q3 Q
structure Dw (P:Program) (w:World) (K:Vo) (mg:Vr) (base:Heap) (k:Nat) (f:Addr) (fd:FuncData) (ps:Vs) (sp:aA):Prop where
 ok:jB P w K mg base qY k f fd ps (xi K ps.length sp)
section
variable {X:Cx} {e o:Expr} {es:List Expr} {te to:aO} {ts:List aO} {x:Str} {p pos apos cpos:Pos} {k:Nat} {f:Addr} {fd:FuncData} {ps:Vs} {sp:aA}
def ad(sp:aA)(ts:List aO):aO:=fun σ S Q E=>ap ts σ S (fun ps S1=>sp ps S1 Q E) E
def qj(F:Dw X.prog X.w X.K X.mg X.base k f fd ps sp)(hr:Room k X.A)(hg:Gl X x)(hm:X.mg x=some (.ref f))(hk:PySem.W.keepIn X.K (.ref f)=true)(hb:Binds X.K fd ps [])(he:starEach (e::es) X.env=(false,eval e X.env)::starEach es X.env)(ha:iD X (e::es) ts)
  (hl:ts.length=ps.length:=by rfl) (hdb:(x == ("__debug__":Str))=false:=by decide) (hpl:(backTo pos (starEach es X.env)).any (·.1)=false:=by rfl):aX X (.Call (.Name x p) (e::es) [] pos) (ad sp ts):=
 ⟨aH (mP F.ok hr hg hm hk hb .nil tO ha.ok hdb he hpl) fun σ H Q ⟨σ3,S,Q3,E3,rσ,rS,h,xo,k⟩=>bL rσ rS h xo fun ps' S' vs H' hl' q rv By g=>by
  rw[Iw]
  exact⟨by rw[rv.length,hl',hl],ps',S',Q3,E3,rv,By,q,k.mono g⟩⟩
end
noncomputable def az(n:Nat)(args:List PV):b5:=args.map some++List.replicate (n - args.length) none
def Ab(n:Nat)(t:bC):aA:=fun args S Q _=>t { nx:=fun _ S'=>Q .non S',rt:=Q,ex:=dD } (az n args) S
def j6{K:Vo}{H:Hp}{N:Vs}{vs:List V}{ps:List PV}(r:Reps K H vs ps):zZ K H (L2.d3 N vs) (az N.length ps):=by
 refine⟨by unfold L2.d3 az;simp[r.length],fun i p e=>?_⟩
 unfold az at e
 unfold L2.d3
 by_cases hi:i < ps.length
 ·rw[IF (by simpa using hi),HY]at e
  cases hp:ps[i]? with
  |none=>rw[hp]at e;cases e
  |some q=>
   rw[hp]at e
   cases e
   obtain⟨v,hv,rv⟩:=r.get hp
   rw[IF (by rw[HM,r.length];exact hi),HY,hv]
   exact⟨v,rfl,rv⟩
 ·rw[IM (by simpa using hi),JA]at e
  split at e
  ·cases e
  ·cases e
section
variable {P:Program} {w:World} {K:Vo} {mg:Vr} {base:Heap}
noncomputable abbrev xj(P:Program)(w:World)(K:Vo)(mg:Vr)(base:Heap)(N:Vs)(qual:Str)(st:Stmt)(f:Addr)(cdv:Value)(A:Around)(outer:List Env)(s:Shared)(H:Hp)(E:XK):Cx:=(k9 qY P w K mg base N qual (aw st) f cdv A outer s H E).Ea
def zp{x qual:Str}{st:Stmt}{f:Addr}{fd:FuncData}{N ps:Vs}{k:Nat}{t:bC}(F:DO K x qual st f fd)(S:cv N ps (aw st))
  (hbody:∀(cdv:Value) (A:Around) (outer:List Env) (s:Shared) (H:Hp) (E:XK),Room k (A.deeper (PyProof.Rows.envOfC qual (aw st) s.heap.objs.size f cdv))->gJ (xj P w K mg base N qual st f cdv A outer s H E) (aV st) t) :
  Dw P w K mg base (k+1) f fd ps (Ab N.length t):=
 ⟨F.ok S (fun vs H Q E h=>h.1) fun cdv A outer s H vs Q E hr ⟨hl,ps',S',Q3,E3,rv,rS,q,kk⟩=>⟨_,(hbody cdv A outer s H E hr).ok,az N.length ps',S',_,j6 rv,rS,q,.no,fun σ3 S2 σ2 H2 h2 _ Bn g2=>kk _ S2 _ H2 h2 .non Bn g2,kk,fun _ _ _ _ h2=>h2.elim,fun _ _ _ _ h2=>h2.elim⟩⟩
end
section
variable {X:Cx} {o e f:Expr} {to te tf:aO} {pos apos cpos:Pos}
noncomputable def fD:List (aO×aO)->b5->ar->(List (PV×PV)->ar->Prop)->cz->Prop
 |[],_,S,Q,_=>Q [] S
 |(tk,tv)::r,σ,S,Q,E=>tk σ S (fun x S1=>tv σ S1 (fun y S2=>fD r σ S2 (fun ps S3=>Q ((x,y)::ps) S3) E) E) E
noncomputable def j7:List (PV×PV)->Option (List (ba×PV))
 |[]=>some []
 |(x,y)::r=>match gL x,j7 r with|some k,some l=>some ((k,y)::l)|_,_=>none
noncomputable def cJ(kvs more:List (ba×PV)):List (ba×PV):=more.foldl (fun acc kv=>gN acc kv.1 kv.2) kvs
structure xY (X:Cx) (pos:Pos) (keys:List (Option Expr)) (values:List Expr) (BZ:List (aO×aO)):Prop where
 ok:wP X pos keys values (BZ.map fun t=>(LE X t.1,LE X t.2))
def qk:xY X pos [] [] []:=⟨rV⟩
def gf{k v:Expr}{ks:List (Option Expr)}{vs:List Expr}{tk tv:aO}{BZ:List (aO×aO)}(hk:aX X k tk)(hv:aX X v tv)(hr:xY X pos ks vs BZ):xY X pos (some k::ks) (v::vs) ((tk,tv)::BZ):=⟨o_ hk.ok hv.ok hr.ok⟩
inductive j8 (K:Vo) (H:Hp):List (V×V)->List (PV×PV)->Prop
 |nil:j8 K H [] []
 |cons {a b:V} {p q:PV} {vs:List (V×V)} {ps:List (PV×PV)}:Rep K H a p->Rep K H b q->j8 K H vs ps->j8 K H ((a,b)::vs) ((p,q)::ps)
theorem jf:∀{BZ:List (aO×aO)} {σ:L2.St} {H:Hp} {Q:List (V×V)->Hp->Prop} {σ3:b5} {S:ar} {Q3:List (PV×PV)->ar->Prop} {E3:cz},zZ X.K H σ σ3->zY X.K H S->fD BZ σ3 S Q3 E3->C9 X H E3->
  (∀ps S' vs H',ps.length=BZ.length->Q3 ps S'->j8 X.K H' vs ps->zY X.K H' S'->Grow X.K H H'->Q vs H')->kA (BZ.map fun t=>(LE X t.1,LE X t.2)) σ H Q
 |[],σ,H,Q,σ3,S,Q3,E3,rσ,rS,h,xo,k=>k [] S [] H rfl h .nil rS .refl
 |(tk,tv)::ts,σ,H,Q,σ3,S,Q3,E3,rσ,rS,h,xo,k=>
  ⟨σ3,S,_,E3,rσ,rS,h,xo,fun p S1 v H1 h1 rv z0 g1=>⟨σ3,S1,_,E3,rσ.mono g1,z0,h1,xo.mono g1,fun p2 S2 v2 H2 h2 G9 Bn g2=>jf (rσ.mono (g1.trans g2)) Bn h2 (xo.mono (g1.trans g2)) fun ps S3 vs H3 hl h3 FJ Dt g3=>
   k ((p,p2)::ps) S3 ((v,v2)::vs) H3 (by rw[Ih,Ih,hl]) h3 (.cons (rv.mono (g2.trans g3)) (G9.mono g3) FJ) Dt (g1.trans (g2.trans g3))⟩⟩
theorem j9{K:Vo}{H:Hp}:∀{vs:List (V×V)} {ps:List (PV×PV)} {l:List (ba×PV)},j8 K H vs ps->j7 ps=some l->∃kvs:List (ba×V),vs=kvs.map (fun kv=>(kV kv.1,kv.2))/\Af K H kvs l
 |_,_,_,.nil,h=>by cases h;exact⟨[],rfl,.nil⟩
 |_,_,l,.cons a b r,h=>by
  unfold j7 at h
  split at h
  ·rename_i k l' ek el
   cases h
   obtain⟨kvs,e,q⟩:=j9 r el
   refine⟨(k,_)::kvs,?_,.cons b q⟩
   rw[Io,<-e,cm a ek]
  ·cases h
def Af.merge{K:Vo}{H:Hp}{more:List (ba×V)}{m3:List (ba×PV)}(r:Af K H more m3):∀{kvs:List (ba×V)} {k3:List (ba×PV)},Af K H kvs k3->Af K H (gF kvs more) (cJ k3 m3):=by
 induction r with
 |nil=>intro kvs k3 q;exact q
 |cons a r ih=>intro kvs k3 q;exact ih (q.put a)
def jg(BZ:List (aO×aO)):aO:=fun σ S Q E=>∀p,S p=none->fD BZ σ (zS S p (.dct [])) (fun ps S2=>S2 p=some (.dct [])/\match j7 ps with|some kvs=>Q (.ref p) (zS S2 p (.dct (cJ [] kvs)))|none=>False) E
def qm{keys:List (Option Expr)}{values:List Expr}{BZ:List (aO×aO)}(h:xY X pos keys values BZ)(hall:keys.all (·.isSome)=true:=by rfl)(hl:keys.length=values.length:=by rfl)(h0:keys≠[]:=by exact List.cons_ne_nil _ _)(Fy:keys.length<=15:=by decide)
  (ht:BZ.length<=15:=by exact K5 rfl):aX X (.Dict keys values pos) (jg BZ):=
 ⟨aH (rW h.ok hall hl h0 Fy) fun σ H Q ⟨σ3,S,Q3,E3,rσ,rS,hq,xo,k⟩=>fun p hp=>by
  have g0:Grow X.K H (upd H p (.dK [])):=.new hp
  refine jf (rσ.mono g0) (rS.new hp (o:=.dct []) ⟨[],ax,.nil⟩) (hq p (rS.free hp)) (xo.mono g0) fun ps S' vs H' hl' q rv By g=>?_
  obtain⟨e,q⟩:=q
  obtain⟨kv,hv,rk⟩:=By _ _ e
  cases rk
  refine⟨hv,?_⟩
  split at q
  ·rename_i kvs ek
   obtain⟨l,el,rl⟩:=j9 rv ek
   refine⟨l,el,?_,k _ _ _ _ q (.ref p) (By.put hv trivial ⟨_,ax,(Af.merge rl .nil).mono (.mut hv trivial)⟩) (g0.trans (g.trans (.mut hv trivial)))⟩
   have z1:∀{vs:List (V×V)} {ps:List (PV×PV)},j8 X.K H' vs ps->vs.length=ps.length:=by
    intro vs ps r
    induction r with
    |nil=>rfl
    |cons _ _ _ ih=>rw[Ih,Ih,ih]
   have z2:=I9 List.length el
   rw[HM,z1 rv,hl']at z2
   omega
  ·exact q.elim⟩
def lu(to te tf:aO):aO:=fun σ S Q E=>to σ S (fun x S1=>match x with
 | .ref a=>(match S1 a with
  |some (.dct _)=>te σ S1 (fun y S2=>tf σ S2 (fun z S3=>match S3 a,gL y with|some (.dct kvs),some k=>Q ((dy kvs k).getD z) S3|_,_=>False) E) E
  |_=>False)
 |_=>False) E
def qo(hu:X.A.units+1 < cLine)(ho:aX X o to)(he:aX X e te)(hf:aX X f tf)(m:M2 X o "get" apos e f cpos):aX X (.Call (.Attribute o "get" apos) [e,f] [] cpos) (lu to te tf):=
 ⟨aH (pe hu ho.ok he.ok hf.ok m) fun σ H Q ⟨σ3,S,Q3,E3,rσ,rS,h,xo,k⟩=>⟨σ3,S,_,E3,rσ,rS,h,xo,fun x S1 v H1 h1 rx z0 g1=>by
  split at h1
  ·cases rx
   split at h1
   ·rename_i ea
    obtain⟨kv,hv,rk⟩:=z0 _ _ ea
    refine⟨_,rfl,.inl ⟨_,.inl hv⟩,σ3,S1,_,E3,rσ.mono g1,z0,h1,xo.mono g1,fun y S2 y' H2 h2 ry Bn g2=>⟨σ3,S2,_,E3,rσ.mono (g1.trans g2),Bn,h2,xo.mono (g1.trans g2),fun z S3 z' H3 h3 rz Dt g3=>?_⟩⟩
    split at h3
    ·rename_i kvs k' eb ek
     obtain⟨kv3,G_,Gp⟩:=Dt _ _ eb
     have e1:=cm (ry.mono g3) ek
     subst e1
     refine⟨_,DGet.k G_,k _ S3 _ H3 h3 ?_ Dt (g1.trans (g2.trans g3))⟩
     cases ev:dy kvs k' with
     |none=>rw[Gp.valN ev];exact rz
     |some w=>
      obtain⟨w',hw,rw'⟩:=Gp.val ev
      rw[hw];exact rw'
    ·exact h3.elim
   ·exact h1.elim
  ·exact h1.elim⟩⟩
def m6(kvs:List (ba×Int))(te tf:aO):aO:=fun σ S Q E=>te σ S (fun y S2=>tf σ S2 (fun z S3=>match gL y with|some k=>Q (((kvs.find? fun kv=>decide (kv.1=k)).map fun kv=>PV.int kv.2).getD z) S3|none=>False) E) E
def vv{x:Str}{px:Pos}{a:Addr}{kvs:List (ba×Int)}(hu:X.A.units+1 < cLine)(hg:Gl X x)(hm:X.mg x=some (.ref a))(hD:KD X.prog X.w X.K a (kvs.map fun kv=>(kv.1,V.int kv.2)))(he:aX X e te)(hf:aX X f tf)(m:M2 X (.Name x px) "get" apos e f cpos)
  (hd:(x == ("__debug__":Str))=false:=by decide):aX X (.Call (.Attribute (.Name x px) "get" apos) [e,f] [] cpos) (m6 kvs te tf):=
 ⟨aH (sh hu hg hm hD he.ok hf.ok m hd) fun σ H Q ⟨σ3,S,Q3,E3,rσ,rS,h,xo,k⟩=>⟨σ3,S,_,E3,rσ,rS,h,xo,fun y S2 y' H2 h2 ry Bn g2=>⟨σ3,S2,_,E3,rσ.mono g2,Bn,h2,xo.mono g2,fun z S3 z' H3 h3 rz Dt g3=>by
  split at h3
  ·rename_i k' ek
   have e1:=cm (ry.mono g3) ek
   subst e1
   refine⟨_,rfl,k _ S3 _ H3 h3 ?_ Dt (g2.trans g3)⟩
   have:∀l:List (ba×Int),Rep X.K H3 ((fg (l.map fun kv=>(kv.1,V.int kv.2)) k').getD z') (((l.find? fun kv=>decide (kv.1=k')).map fun kv=>PV.int kv.2).getD z):=by
    intro l
    induction l with
    |nil=>exact rz
    |cons q r ih=>
     rw[Io,List.find?_cons]
     by_cases e:q.1=k'
     ·rw[Bb e,IU e];exact .int _
     ·rw[AM e,Iu e];exact ih
   exact this kvs
  ·exact h3.elim⟩⟩⟩
def lv(te:aO):aO:=fun σ S Q E=>te σ S (fun x S1=>match x with
 | .ref a=>(match S1 a with|some (.lst xs)=>∀p,S1 p=none->Q (.ref p) (zS S1 p (.lst xs.reverse))|_=>False)
 |_=>False) E
def vx{p1 p2 q1 q2:Pos}(hs:starEach [e] X.env=[(false,eval e X.env)])(hc:X.calm=true)(he:aX X e te)(Ei:Gl X "list")(hm1:X.mg "list" = none)(DC:Gl X "reversed")(hm2:X.mg "reversed" = none):aX X (.Call (.Name "list" p1) [.Call (.Name "reversed" p2) [e] [] q2] [] q1) (lv te):=
 ⟨aH (l7 hc he.ok Ei hm1 DC hm2 hs rfl) fun σ H Q ⟨σ3,S,Q3,E3,rσ,rS,h,xo,k⟩=>⟨σ3,S,_,E3,rσ,rS,h,xo,fun x S1 v H1 h1 rx z0 g1=>by
  split at h1
  ·cases rx
   split at h1
   ·rename_i ea
    obtain⟨vs,hv,rs⟩:=z0 _ _ ea
    exact⟨_,_,rfl,SqL.of hv,fun q hq=>k _ _ _ _ (h1 q (z0.free hq)) (.ref q) (z0.new hq ⟨_,ax,rs.reverse.mono (.new hq)⟩) (g1.trans (.new hq))⟩
   ·exact h1.elim
  ·exact h1.elim⟩⟩
end
def b3:R3:=dF fun i j=>.int (i - j)
def fi:R3:=fq (fun _ j=>j≠0) fun i j=>.int (i.fmod j)
def iq:R3:=fq lp fun i j=>.int (i.fdiv j)
def qp:R3:=fq uD fun i j=>.int (i ^ j.toNat)
def oI:R3:=dF fun i j=>.bl (decide (i < j))
def ms:R3:=dF fun i j=>.bl (decide (j < i))
def xk:R3:=dF fun i j=>.bl (decide (j<=i))
section
variable {X:Cx}
def d4:gK X (binaryOp .Sub) b3:=vg
def ed:gK X (binaryOp .Mod) fi:=vh
def kO:gK X (binaryOp .FloorDiv) iq:=sr
def xm:gK X (binaryOp .Pow) qp:=vi
def mv:gK X (compareOp .Lt) oI:=wY
def mw:gK X (compareOp .Gt) ms:=wZ
def yR:gK X (compareOp .GtE) xk:=w4
end
def q9{A:Around}{k:Nat}(hr:Room k A):A.units+1 < cLine:=by have:=hr.un;omega
def gg{A:Around}{k:Nat}(hr:Room k A):A.units+150 < cLine:=by have:=hr.un;omega
def eg{A:Around}{k:Nat}(hr:Room k A):A.units+160 < cLine:=by have:=hr.un;omega
structure xZ (K:Vo) (mg:Vr) (x:Str) (st:Stmt) (ps:Vs) (f:Addr) (fd:FuncData):Prop where
 F:DO K x x st f fd
 b:Binds K fd ps []
 k:PySem.W.keepIn K (.ref f)=true
 m:mg x=some (.ref f)
def Dw.zero{P:Program}{w:World}{K:Vo}{mg:Vr}{base:Heap}{k:Nat}{f:Addr}{fd:FuncData}{ps:Vs}{sp:aA}(h:sp=fun _ _ _ _=>False):Dw P w K mg base k f fd ps sp:=by
 subst h
 exact⟨⟨fun vs H Q E q=>q.1,fun A outer s H args us vs Q E _ _ _ _ ⟨_,_,_,_,_,_,_,q,_⟩=>q.elim⟩⟩
def yS{K:Vo}{H:Hp}{a:Addr}{ns:Vu}{sp:aA}(hO:rX H)(hS:SqL K H a (ns.map V.int))(h:sp [.cl (ns.map PV.int)] (fun _=>none) (fun v _=>v = .bl true) dD):xi K 1 sp [.ref a] H (fun v _=>v = .bl true) fun _ _ _=>False:=by
 have hr:∀l:List Int,Reps K H (l.map V.int) (l.map PV.int):=by
  intro l
  induction l with
  |nil=>exact .nil
  |cons x r ih=>exact .cons (.int x) ih
 refine⟨rfl,[.cl (ns.map PV.int)],fun _=>none,_,dD,.cons (.cl (vs:=ns.map V.int) ?_ (hr ns)) .nil,(fun b o e=>by simp at e),h,fun p S' v H' q rv rS g=>?_⟩
 ·rcases hS with(q|q)|q
  ·rcases hO a with z|⟨o,xs,z⟩
   ·rw[z]at q;cases q
   ·rw[z]at q;cases q
  ·exact .inl q
  ·exact .inr q
 ·subst q
  cases rv
  rfl
end L3
namespace L2
open PySem PySem.Spec PyProof.Rows
end L2
namespace HT
open PySem PySem.Spec PyProof.Rows
end HT
namespace L2
open PySem PySem.Spec PyProof.Rows
end L2
namespace L3
open PySem L2
end L3
namespace L2
open PySem PySem.Spec PyProof.Rows
section
variable {X:Cx}
noncomputable def sJ:V->List V->Hp->VK->Prop:=fun x vs H Q=>∃(l:Addr) (xs:List V) (j:Nat) (y:V),x = .ref l/\vs=[.int j,y]/\H l=some (.lst xs)/\j<=xs.length/\xs.length < sizeLine/\Q .non (upd H l (.lst (xs.take j++y::xs.drop j)))
def oj:wL X "list.insert" sJ:=by
 intro pins s σ H x vs v us Q I rx rv h
 obtain⟨l,xs,j,y,rfl,rfl,hH,hj,hz,q⟩:=h
 cases rx
 cases rv with
 |@cons _ u0 _ Ha r1 rr=>
  obtain⟨u,rfl,ru⟩:∃u,Ha=[u]/\RelV y u:=by
   cases rr with
   |@cons _ u _ us r2 r3=>cases r3;exact⟨u,rfl,r2⟩
  obtain⟨tk,rfl⟩:∃tk,u0 = .int (j:Int) tk:=r1
  obtain⟨z,its,n,r,hl,e⟩:=I.Cg hH
  have hfit:¬(!Builtin.List.listFitsIndex (j:Int))=true:=by
   have:j < 2 ^ 62:=KL hj (Ic hz (by decide))
   simp[Builtin.List.listFitsIndex]
   omega
  have hs1:its.toArray.size<=sizeLine:=by rw[HQ];omega
  generalize hx:(j:Int)=x at hfit
  refine KJ F.slot_list_insert ⟨_,e,rfl⟩ F.entry_list_insert (F.args_list_insert_3 _ _ _) (PySem.AutoSeq1.list_insert_list_int_val_1 l its.toArray n x tk u hfit hs1) ⟨e,?_⟩
  refine⟨.non,_,I.Df (its':=its.take j++u::its.drop j) hH e ?_ ((r.take j).append (.cons ru (r.drop j))) ?_,rfl,q⟩
  ·show((its.toArray.extract 0 (if x < 0 then (x+(its.toArray.size:Int)).toNat else min x.toNat its.toArray.size)).push u++its.toArray.extract (if x < 0 then (x+(its.toArray.size:Int)).toNat else min x.toNat its.toArray.size))=_
   have hl2:its.length=xs.length:=r.length.symm
   have ek:(if x < 0 then (x+(its.toArray.size:Int)).toNat else min x.toNat its.toArray.size)=j:=by
    rw[if_neg (by omega),<-hx,JS,HQ]
    omega
   rw[ek]
   apply Array.toList_inj.mp
   simp[List.extract_eq_take_drop]
   exact J6 (by rw[IQ];exact HU _)
  ·rw[HL,Ih,IG,IQ]
   omega
end
end L2
namespace L3
open PySem L2
section
variable {X:Cx} {a b c:Expr} {ta tb tc:aO} {pos:Pos}
def iP:mn:=fun x ps S Q=>match x,ps with
 | .ref a,[.int i,y]=>(match S a with|some (.lst xs)=>0<=i/\i<=xs.length/\xs.length < sizeLine/\Q .non (zS S a (.lst (xs.take i.toNat++y::xs.drop i.toNat)))|_=>False)
 |_,_=>False
def qq:oH X "list.insert" iP:=⟨fun pins s σ H x xs v us Q I rx rs ⟨px,ps,S,Q3,r1,rp,rS,q,k⟩=>by
 unfold iP at q
 split at q
 ·rename_i i y
  split at q
  ·rename_i e
   cases r1
   cases rp with
   |cons b rr=>
    cases b
    cases rr with
    |cons b2 rr=>
     cases rr
     obtain⟨vs,hv,rl⟩:=rS _ _ e
     obtain⟨j,rfl⟩:=JC q.1
     exact oj pins s σ H _ _ v us Q I rx rs ⟨_,_,j,_,rfl,rfl,hv,by rw[rl.length];have:=q.2.1;omega,by rw[rl.length];exact q.2.2.1,k _ _ _ _ q.2.2.2 .non (rS.put hv trivial ⟨_,ax,((rl.take j).append (.cons b2 (rl.drop j))).mono (.mut hv trivial)⟩) (.mut hv trivial)⟩
  ·exact q.elim
 ·exact q.elim⟩
end
end L3
namespace L2
open PySem PySem.Spec PyProof.Rows PySem.AutoSeq1
end L2
namespace L3
open PySem L2
end L3
namespace C
open PySem L2 L3
noncomputable def k_SIDES_FROM:List (ba×Int):=[(Sum.inr "then",1),(Sum.inr "either",1),(Sum.inr "take",3),(Sum.inr "often",1)]
def eu:bC:=(af (aq 3 (aR (a_ (bf (v3 0) (jH (v3 1)) (jH (c3 (.int 63))))) (.n 0) bQ (am i6 [(v3 0),(ah b3 (c3 (.int 0)) (v3 0))]) 1 []))
  (af (aq 4 (ah aP (c3 (.int 7919)) (v3 1)))
  (af (cV (a_ (v3 3)) (.n 2) (aq 4 (ah fi (ah aP (ah iF (v3 4) (c3 (.int 48271))) (ah fi (v3 2) (c3 (.int 2147483629)))) (c3 (.int 2147483647)))))
  (ay (jg [((c3 (.str "seed")),(v3 4)),((c3 (.str "number")),(c3 (.int 0))),((c3 (.str "left")),(lv (aR (a_ (v3 3)) (.n 0) (aU (ah xk (v3 0) (ah qp (c3 (.int 10)) (c3 (.int 18))))) (v3 0) 1 [])))])))))
def eA:bC:=(af (gR (jF (aU (ah (bg false) (ah ag (v3 0) (c3 (.str "number"))) (c3 (.int 0)))) (aU (ah ms (am bP [(ah ag (v3 0) (c3 (.str "left")))]) (c3 (.int 0))))) (kM (d9 "list" lq (ah ag (v3 0) (c3 (.str "left"))) []) (v3 0) (c3 (.str "number"))))
  (af (aq 2 (ah ag (v3 0) (c3 (.str "number"))))
  (af (bq (aU (ah ms (v3 2) (c3 (.int 0)))) (af (kM (ah iq (v3 2) (v3 1)) (v3 0) (c3 (.str "number")))
  (ay (ah fi (v3 2) (v3 1)))) aN)
  (af (aq 3 (ah fi (ah aP (ah iF (ah ag (v3 0) (c3 (.str "seed"))) (c3 (.int 48271))) (c3 (.int 7919))) (c3 (.int 2147483647))))
  (af (kM (ah fi (ah aP (ah iF (v3 3) (c3 (.int 40692))) (c3 (.int 104729))) (c3 (.int 2147483399))) (v3 0) (c3 (.str "seed")))
  (af (aq 4 (ah fi (ah iF (ah ag (v3 0) (c3 (.str "seed"))) (ah ag (v3 0) (c3 (.str "seed")))) (c3 (.int 2147483563))))
  (ay (ah fi (ah aP (ah iF (ah fi (ah iF (v3 3) (v3 3)) (c3 (.int 2147483629))) (c3 (.int 2147483563))) (v3 4)) (v3 1)))))))))
def fE:bC:=(af (n_ 2 3 (am i6 [(v3 0),(ah b3 (c3 (.int 0)) (v3 0))]) (v3 1))
  (af (gR (aU (ah ms (v3 3) (c3 (.int 0)))) (n_ 2 3 (v3 3) (ah fi (v3 2) (v3 3))))
  (ay (aB [(ah iq (v3 0) (v3 2)),(ah iq (v3 1) (v3 2))]))))
def dH(zR:aA):bC:=(af (aq 2 (c3 (.str "abcdefghijklmnopqrstuvwxyz")))
  (af (aq 3 (bm [(c3 (.str "jars")),(c3 (.str "deed")),(c3 (.str "rest")),(c3 (.str "pay")),(c3 (.str "put")),(c3 (.str "then")),(c3 (.str "either")),(c3 (.str "take")),(c3 (.str "often")),(c3 (.str "use"))]))
  (af (aq 5 (d9 "str" j4 (c3 (.str "")) [(aR (jI (ad zR [(v3 0),(c3 (.int 6))])) (.n 0) bQ (ah ag (v3 2) (ad zR [(v3 1),(c3 (.int 26))])) 1 [0,2])]))
  (af (je 6 7 8 (aB [(ad zR [(v3 0),(ah aP (am bP [(v3 5)]) (c3 (.int 1)))]),(ad zR [(v3 0),(c3 (.int 26))]),(ah (bg false) (ad zR [(v3 0),(c3 (.int 2))]) (c3 (.int 0)))]))
  (af (aq 9 (bm []))
  (af (cV (jI (v3 1)) (.n 4) (af (aq 10 (ah aP (ah aP (bf (v3 5) kK (jH (v3 6))) (ah ag (v3 2) (ah fi (ah aP (v3 7) (v3 4)) (c3 (.int 26))))) (bf (v3 5) (jH (v3 6)) kK)))
  (af (bq (pU (aU (v3 8))) (aq 10 (d9 "str" j4 (c3 (.str "")) [(aR (jI (ah aP (c3 (.int 1)) (ad zR [(v3 0),(c3 (.int 6))]))) (.n 0) bQ (ah ag (v3 2) (ad zR [(v3 1),(c3 (.int 26))])) 1 [0,2])])) aN)
  (af (gR (lm (aU (ah (iM false) (v3 10) (v3 3))) (aU (ah (iM false) (v3 10) (v3 9)))) (aq 10 (ah aP (ah ag (v3 2) (ah fi (ah aP (d9 "str" gM (v3 2) [(ah ag (v3 10) (c3 (.int 0)))]) (c3 (.int 1))) (c3 (.int 26)))) (bf (v3 10) (jH (c3 (.int 1))) kK))))
  (aY (d9 "list" aZ (v3 9) [(v3 10)]))))))
  (ay (v3 9))))))))
def eB(zR CG:aA):bC:=(af (aq 1 (ad zR [(v3 0),(c3 (.int 4))]))
  (af (bq (aU (ah (bg false) (v3 1) (c3 (.int 0)))) (ay (aB [(c3 (.int 0)),(c3 (.int 1))])) aN)
  (af (bq (aU (ah oI (v3 1) (c3 (.int 3)))) (ay (aB [(ah aP (c3 (.int 1)) (ad zR [(v3 0),(c3 (.int 5))])),(c3 (.int 1))])) aN)
  (ay (ad CG [(ad zR [(v3 0),(c3 (.int 1000))]),(ah aP (c3 (.int 1)) (ad zR [(v3 0),(c3 (.int 9))]))])))))
def ck(zR Cw:aA):bC:=(af (aq 2 (ad zR [(v3 0),(c3 (.int 7))]))
  (af (bq (aU (ah (bg false) (v3 2) (c3 (.int 0)))) (ay (aB [(c3 (.str "rest"))])) aN)
  (af (bq (lm (aU (ah oI (v3 2) (c3 (.int 4)))) (aU (ah (bg false) (am bP [(v3 1)]) (c3 (.int 0))))) (ay (aB [(c3 (.str "pay")),(ad Cw [(v3 0)])])) aN)
  (af (aq 3 (ah ag (bm [(c3 (.int 1)),(c3 (.int 2)),(ah aP (c3 (.int 1)) (ad zR [(v3 0),(c3 (.int 9))]))]) (ad zR [(v3 0),(c3 (.int 3))])))
  (ay (aB [(c3 (.str "put")),(ah ag (v3 1) (ad zR [(v3 0),(am bP [(v3 1)])])),(v3 3)]))))))
def eC(zR Aa s0:aA):bC:=(af (aq 4 (ad zR [(v3 0),(c3 (.int 12))]))
  (af (bq (lm (aU (ah (bg false) (v3 3) (c3 (.int 0)))) (lm (aU (ah oI (ah ag (v3 2) (c3 (.int 0))) (c3 (.int 2)))) (aU (ah oI (v3 4) (c3 (.int 3)))))) (ay (ad Aa [(v3 0),(v3 1)])) aN)
  (af (bq (aU (ah oI (v3 4) (c3 (.int 5)))) (af (kM (ah b3 (ah ag (v3 2) (c3 (.int 0))) (c3 (.int 1))) (v3 2) (c3 (.int 0)))
  (ay (aB [(c3 (.str "often")),(ad s0 [(v3 0),(v3 1),(v3 2),(ah b3 (v3 3) (c3 (.int 1)))])]))) aN)
  (af (kM (ah b3 (ah ag (v3 2) (c3 (.int 0))) (c3 (.int 2))) (v3 2) (c3 (.int 0)))
  (af (aq 5 (ad s0 [(v3 0),(v3 1),(v3 2),(ah b3 (v3 3) (c3 (.int 1)))]))
  (af (aq 6 (ad s0 [(v3 0),(v3 1),(v3 2),(ah b3 (v3 3) (c3 (.int 1)))]))
  (af (bq (aU (ah oI (v3 4) (c3 (.int 8)))) (ay (aB [(c3 (.str "then")),(v3 5),(v3 6)])) aN)
  (af (bq (lm (aU (ah (bg false) (v3 4) (c3 (.int 8)))) (aU (ah (bg false) (am bP [(v3 1)]) (c3 (.int 0))))) (ay (aB [(c3 (.str "either")),(v3 5),(v3 6)])) aN)
  (af (aq 7 (ah ag (bm [(c3 (.int 1)),(c3 (.int 1)),(c3 (.int 2)),(ah aP (c3 (.int 1)) (ad zR [(v3 0),(c3 (.int 9))]))]) (ad zR [(v3 0),(c3 (.int 4))])))
  (ay (aB [(c3 (.str "take")),(ah ag (v3 1) (ad zR [(v3 0),(am bP [(v3 1)])])),(v3 7),(v3 5),(v3 6)])))))))))))
def bU(s0:aA):bC:=(af (bq (aU (ah (bg false) (ah ag (v3 0) (c3 (.int 0))) (c3 (.str "then")))) (ay (ah iF (ad s0 [(ah ag (v3 0) (c3 (.int 1)))]) (ad s0 [(ah ag (v3 0) (c3 (.int 2)))]))) aN)
  (af (bq (lm (aU (ah (bg false) (ah ag (v3 0) (c3 (.int 0))) (c3 (.str "either")))) (aU (ah (bg false) (ah ag (v3 0) (c3 (.int 0))) (c3 (.str "take"))))) (ay (ah aP (ad s0 [(ah ag (v3 0) (fz bI (c3 (.int 2))))]) (ad s0 [(ah ag (v3 0) (fz bI (c3 (.int 1))))]))) aN)
  (ay (c3 (.int 1)))))
def bK(At s0:aA):bC:=(af (bq (aU (ah (bg false) (ah ag (v3 0) (c3 (.int 0))) (c3 (.str "often")))) (ay (ah aP (ad At [(ah ag (v3 0) (c3 (.int 1)))]) (ad s0 [(ah ag (v3 0) (c3 (.int 1)))]))) aN)
  (af (bq (aU (ah (iM false) (ah ag (v3 0) (c3 (.int 0))) (aB [(c3 (.str "then")),(c3 (.str "either")),(c3 (.str "take"))]))) (ay (ah aP (ad s0 [(ah ag (v3 0) (fz bI (c3 (.int 2))))]) (ad s0 [(ah ag (v3 0) (fz bI (c3 (.int 1))))]))) aN)
  (ay (c3 (.int 0)))))
def b7(Br At BC Aa:aA):bC:=(af (aq 4 (ad Br [(v3 0),(v3 1),(bm [(ah b3 (v3 2) (c3 (.int 1)))]),(c3 (.int 5))]))
  (af (bq (aU (ah ms (ah aP (ad At [(v3 4)]) (ad BC [(v3 4)])) (v3 3))) (aq 4 (aB [(c3 (.str "then")),(aB [(c3 (.str "often")),(ad Aa [(v3 0),(v3 1)])]),(ad Aa [(v3 0),(v3 1)])])) aN)
  (ay (v3 4))))
def dI(Au zR BP:aA):bC:=(af (aq 4 (ad Au [(v3 0),(c3 (.int 8))]))
  (af (aq 5 (am aQ [(bf (v3 4) kK (jH (ad zR [(v3 0),(ah aP (v3 1) (c3 (.int 1)))])))]))
  (af (aq 6 (ah ag (bm [(c3 (.int 0)),(c3 (.int 4))]) (ad zR [(v3 0),(c3 (.int 2))])))
  (af (aq 7 (ah aP (c3 (.int 1)) (ad zR [(v3 0),(v3 2)])))
  (af (aq 8 (aR (jI (v3 7)) (.n 0) bQ (aB [(ah ag (v3 6) (ah aP (v3 2) (v3 0))),(ad BP [(v3 1),(v3 3),(v3 5),(ah iq (c3 (.int 24)) (v3 4))])]) 1 [0,6,5,7,3,4]))
  (ay (aB [(v3 5),(am aQ [(v3 8)])])))))))
def fF:bC:=(ay (bf (v3 0) (jH (m6 C.k_SIDES_FROM (ah ag (v3 0) (c3 (.int 0))) (am bP [(v3 0)]))) kK))
def fG(BD s0:aA):bC:=(af (aq 1 (bm [(v3 0)]))
  (af (cV (a_ (ad BD [(v3 0)])) (.n 2) (aY (d9 "list" bT (v3 1) [(ad s0 [(v3 2)])])))
  (ay (v3 1))))
def kP(CH:aA):bC:=(ay (am bP [(ad CH [(v3 0)])]))
def gS:bC:=(ay (ah (iM true) (ah ag (v3 0) (c3 (.int 0))) (aB [(c3 (.str "rest")),(c3 (.str "then"))])))
def dh(s0:aA):bC:=(af (bq (aU (ah (bg false) (ah ag (v3 0) (c3 (.int 0))) (c3 (.str "then")))) (ay (aB [(ad s0 [(ah ag (v3 0) (c3 (.int 1)))]),(ad s0 [(ah ag (v3 0) (c3 (.int 2)))])])) aN)
  (af (bq (aU (ah (bg false) (ah ag (v3 0) (c3 (.int 0))) (c3 (.str "either")))) (ay (aB [(c3 (.int 0)),(ad s0 [(ah ag (v3 0) (c3 (.int 1)))])])) aN)
  (af (bq (aU (ah (bg false) (ah ag (v3 0) (c3 (.int 0))) (c3 (.str "take")))) (ay (aB [(c3 (.int 1)),(ad s0 [(ah ag (v3 0) (c3 (.int 4)))])])) aN)
  (ay (aB [])))))
def di(DD Bz s0:aA):bC:=(af (bq (aU (ah (bg false) (v3 1) (c3 (.int 0)))) (ay (v3 2)) aN)
  (af (bq (aU (ah (bg false) (ah ag (v3 0) (c3 (.int 0))) (c3 (.str "often")))) (ay (aB [(aB [(c3 (.int 1)),(ad s0 [(ah ag (v3 0) (c3 (.int 1))),(ah b3 (v3 1) (c3 (.int 1))),(v3 2)])])])) aN)
  (af (aq 3 (ah ag (v3 0) (fz bI (c3 (.int 2)))))
  (af (aq 4 (ah ag (v3 0) (fz bI (c3 (.int 1)))))
  (af (aq 5 (ah aP (c3 (.int 1)) (ad DD [(v3 3)])))
  (af (aq 6 (n5 (aU (ah oI (v3 1) (v3 5))) (c3 (.int 0)) (c3 (.int 1))))
  (af (aq 7 (n5 (aU (ah (bg false) (v3 6) (c3 (.int 0)))) (ad s0 [(v3 3),(ah b3 (v3 1) (c3 (.int 1))),(v3 2)]) (ad s0 [(v3 4),(ah b3 (v3 1) (v3 5)),(v3 2)])))
  (af (bq (aU (ah (bg true) (ah ag (v3 0) (c3 (.int 0))) (c3 (.str "then")))) (ay (aB [(v3 6),(v3 7)])) aN)
  (af (bq (aU (ah (bg false) (v3 6) (c3 (.int 0)))) (ay (aB [(v3 7),(ad Bz [(v3 4)])])) aN)
  (ay (aB [(ad Bz [(v3 3)]),(v3 7)])))))))))))
def eE(s0:aA):bC:=(af (bq (aU (ah (bg false) (ah ag (v3 0) (c3 (.int 0))) (c3 (.str "put")))) (aY (d9 "list" aZ (v3 2) [(ah ag (v3 0) (c3 (.int 1)))])) aN)
  (af (bq (aU (ah (bg false) (ah ag (v3 0) (c3 (.int 0))) (c3 (.str "often")))) (aY (ad s0 [(ah ag (v3 0) (c3 (.int 1))),(v3 1),(v3 2)])) aN)
  (bq (aU (ah (iM false) (ah ag (v3 0) (c3 (.int 0))) (aB [(c3 (.str "then")),(c3 (.str "either")),(c3 (.str "take"))]))) (af (bq (lm (aU (ah (bg true) (ah ag (v3 0) (c3 (.int 0))) (c3 (.str "take")))) (aU (ah (iM false) (ah ag (v3 0) (c3 (.int 1))) (v3 1)))) (aY (ad s0 [(ah ag (v3 0) (fz bI (c3 (.int 2)))),(v3 1),(v3 2)])) aN)
  (aY (ad s0 [(ah ag (v3 0) (fz bI (c3 (.int 1)))),(v3 1),(v3 2)]))) aN)))
def cn(Cy:aA):bC:=(af (aq 1 (bm []))
  (af (cV (a_ (ah ag (v3 0) (c3 (.int 0)))) (.n 2) (af (aq 3 (bm []))
  (af (cV (a_ (ah ag (v3 0) (c3 (.int 1)))) (.tp (.cons (.n 4) (.cons (.n 5) .nil))) (aY (ad Cy [(v3 5),(v3 1),(v3 3)])))
  (aq 1 (v3 3)))))
  (ay (v3 1))))
def cK(s0:aA):bC:=(af (bq (aU (ah (bg false) (ah ag (v3 0) (c3 (.int 0))) (c3 (.str "put")))) (ay (aB [(c3 (.str "put")),(lu (v3 1) (ah ag (v3 0) (c3 (.int 1))) (ah ag (v3 0) (c3 (.int 1)))),(ah ag (v3 0) (c3 (.int 2)))])) aN)
  (af (bq (aU (ah (bg false) (ah ag (v3 0) (c3 (.int 0))) (c3 (.str "often")))) (ay (aB [(c3 (.str "often")),(ad s0 [(ah ag (v3 0) (c3 (.int 1))),(v3 1)])])) aN)
  (af (bq (aU (ah (iM false) (ah ag (v3 0) (c3 (.int 0))) (aB [(c3 (.str "then")),(c3 (.str "either")),(c3 (.str "take"))]))) (af (aq 2 (aB [(ad s0 [(ah ag (v3 0) (fz bI (c3 (.int 2)))),(v3 1)]),(ad s0 [(ah ag (v3 0) (fz bI (c3 (.int 1)))),(v3 1)])]))
  (af (bq (aU (ah (bg false) (ah ag (v3 0) (c3 (.int 0))) (c3 (.str "take")))) (ay (ah aP (aB [(c3 (.str "take")),(lu (v3 1) (ah ag (v3 0) (c3 (.int 1))) (ah ag (v3 0) (c3 (.int 1)))),(ah ag (v3 0) (c3 (.int 2)))]) (v3 2))) aN)
  (ay (ah aP (bf (v3 0) kK (jH (c3 (.int 1)))) (v3 2))))) aN)
  (ay (v3 0)))))
end C
namespace Zu
open PySem Zt
open Sem (wp)
def nn{a b:Nat}(h:a≠b):@Ne Addr a b:=h
end Zu
namespace L2
open PySem PySem.Spec PyProof.Rows
end L2
namespace L3
open PySem L2
end L3
namespace L2
open PySem PySem.Spec PyProof.Rows
end L2
namespace L3
open PySem L2
end L3
namespace C
open PySem L2 L3
end C
namespace Zv
open PySem
open Sem (wp)
abbrev q_(h:Heap)(n:Nat)(f0 f1:Value):Prop:=h.get? (n+4:Nat)=some { cls:=.type "zip",dict:=none,data:=.fields #[f0,f1,.bool false,.ref (n+2:Nat),.ref (n+3:Nat)],slots:=#[] }
section
variable {prog:Program} {w:World} {A:Around} {E:Vq} {s:Shared} {n l1 l2:Nat} {i:Nat} {xs ys:Vw} {x y:Value} {T:Nat} {oT:Obj} {f1:Value}
def zF{M:Model}{a:Nat}{Q:Option Obj->Shared->Prop}(h:Q (s.heap.get? a) s):wpAny M A (loadIfAlive a) Q E s:=fun Γ p _=>h
def m7{Q:Bool->Shared->Prop}(gz:q_ s.heap n (rawInt T) f1)(aT:s.heap.get? T=some oT)(hf:f1 = .bool false\/f1 = .bool true)
  (k:∀g,q_ g n (rawInt T) (.bool true)->(∀c o,c≠n+4->s.heap.get? c=some o->g.get? c=some o)->g.objs.size=s.heap.objs.size->Q false { s with heap:=g }) :
  wpAny (model prog w) A (Builtin.SmallTypes.ownedTupleIsFree (.ref (n+4:Nat))) Q E s:=by
 unfold Builtin.SmallTypes.ownedTupleIsFree
 refine HK (IE gz rfl (x:=rawInt T) rfl ?_)
 show wpAny _ _ (loadIfAlive ((T:Int).toNat) >>= _) _ _ _
 refine HK (zF ?_)
 rw[JS,aT]
 show wpAny _ _ (field (.ref (n+4:Nat)) 1 >>= _) _ _ _
 refine HK (IE gz rfl (x:=f1) rfl ?_)
 rcases hf with rfl|rfl
 ·show wpAny _ _ (setField (.ref (n+4:Nat)) 1 (.bool true) >>= _) _ _ _
  exact HK (Jt gz (by simp) fun g z1 q1=>HR (k g z1 (fun c o c1 e=>q1.extBut _ _ c1 e) q1.1))
 ·show wpAny _ _ (pure false) _ _ _
  exact HR (k s.heap gz (fun _ _ _ e=>e) rfl)
def zG{Q:Vq}(d1:l1 < n)(d2:l2 < n)(gz:q_ s.heap n (rawInt T) f1)(gI:IsPair s.heap (n+2:Nat) (.ref n) (.ref (n+1:Nat)))(aT:s.heap.get? T=some oT)(hf:f1 = .bool false\/f1 = .bool true)
  (g1:s.heap.IsListIter n l1 i) (g2:s.heap.IsListIter (n+1:Nat) l2 i) (t1:s.heap.IsList l1 xs) (t2:s.heap.IsList l2 ys) (hx:xs[i]?=some x) (hy:ys[i]?=some y)
  (k:∀g,q_ g n (rawInt T) (.bool true)->g.IsListIter n l1 (i+1)->g.IsListIter (n+1:Nat) l2 (i+1)->IsPair g s.heap.objs.size x y->g.objs.size=s.heap.objs.size+1->
   (∀c o,c≠n+4->c≠n->c≠n+1->s.heap.get? c=some o->g.get? c=some o)->Q (.ref s.heap.objs.size) { s with heap:=g }) :
  wpAny (model prog w) A (Builtin.«zip.__next__» ⟨[.ref (n+4:Nat)],[]⟩) (fun fin s'=>∃v,fin = .done (.ret v)/\Q v s') E s:=by
 show wpAny _ _ (field (.ref (n+4:Nat)) 2 >>= _) _ _ _;refine HK (IE gz rfl (x:=.bool false) rfl ?_)
 show wpAny _ _ (field (.ref (n+4:Nat)) 3 >>= _) _ _ _;refine HK (IE gz rfl (x:=.ref (n+2:Nat)) rfl (HK (Jg gI rfl ?_)))
 show wpAny _ _ (Builtin.SmallTypes.ownedTupleIsFree (.ref (n+4:Nat)) >>= _) _ _ _
 refine HK (m7 gz aT hf fun h₁ z1 q1 DQ=>?_)
 simp only[Ie,IP]
 simp only[<-Array.forIn_toList,KC,List.forIn_nil]
 have FN:h₁.IsListIter n l1 i:=g1.at fun o e=>q1 _ o (by omega) e
 have Hb:h₁.IsListIter (n+1:Nat) l2 i:=g2.at fun o e=>q1 _ o (by omega) e
 have t1':h₁.IsList l1 xs:=t1.at fun o e=>q1 _ o (by omega) e
 have Hc:h₁.IsList l2 ys:=t2.at fun o e=>q1 _ o (by omega) e
 refine HK (HK (HK (Jv ?_)))
 show wpAny _ _ (Builtin.SmallTypes.nextOf (.ref n) >>= _) _ _ _
 refine HK (KZ FN t1' hx fun h₂ n1 q2=>HR ?_)
 have FO:h₂.IsListIter (n+1:Nat) l2 i:=Hb.extBut q2.extBut (Zu.nn (by omega))
 have FP:h₂.IsList l2 ys:=Hc.extBut q2.extBut (Zu.nn (by omega))
 refine HR ?_
 refine HK (HK (Jv ?_))
 show wpAny _ _ (Builtin.SmallTypes.nextOf (.ref (n+1:Nat)) >>= _) _ _ _
 refine HK (KZ FO FP hy fun h₃ n2 q3=>HR ?_)
 refine HR (HR ?_)
 show wpAny _ _ (newTuple [x,y] >>= _) _ _ _
 refine HK (wpAny_newTuple (HR ⟨_,rfl,?_⟩))
 have sz:h₃.objs.size=s.heap.objs.size:=by rw[q3.1,q2.1,DQ]
 have kk:∀c o,c≠n+4->c≠n->c≠n+1->s.heap.get? c=some o->h₃.get? c=some o:=fun c o c1 c2 c3 e=>q3.extBut _ _ c3 (q2.extBut _ _ c2 (q1 c o c1 e))
 have z3:q_ h₃ n (rawInt T) (.bool true):=q3.extBut _ _ (Zu.nn (by omega)) (q2.extBut _ _ (Zu.nn (by omega)) z1)
 have m1:h₃.IsListIter n l1 (i+1):=n1.extBut q3.extBut (Zu.nn (by omega))
 have T8:IsPair (h₃.push { cls:=.type "tuple",data:=.seq #[x,y] }) h₃.objs.size x y:=Ia _ rfl
 rw[sz]at T8
 show Q (.ref h₃.objs.size) _
 rw[sz]
 exact k _ (HN _ z3) (m1.at fun o e=>HN _ e) (n2.at fun o e=>HN _ e) T8 (by rw[Jx,sz]) fun c o c1 c2 c3 e=>HN _ (kk c o c1 c2 c3 e)
def yT{Q:Fin->Shared->Prop}(hh:A.handled=none)(d1:l1 < n)(gz:q_ s.heap n (rawInt T) f1)(gI:IsPair s.heap (n+2:Nat) (.ref n) (.ref (n+1:Nat)))(aT:s.heap.get? T=some oT)(hf:f1 = .bool false\/f1 = .bool true)
  (g1:s.heap.IsListIter n l1 i) (t1:s.heap.IsList l1 xs) (hx:xs[i]?=none)
  (k:∀(g:Heap) (e:Addr),(∀c o,c≠n+4->c≠n->s.heap.get? c=some o->g.get? c=some o)->(∃o,g.get? e=some o/\o.cls = .type "StopIteration")->E (.ref e) { s with heap:=g }) :
  wpAny (model prog w) A (Builtin.«zip.__next__» ⟨[.ref (n+4:Nat)],[]⟩) Q E s:=by
 show wpAny _ _ (field (.ref (n+4:Nat)) 2 >>= _) _ _ _;refine HK (IE gz rfl (x:=.bool false) rfl ?_)
 show wpAny _ _ (field (.ref (n+4:Nat)) 3 >>= _) _ _ _;refine HK (IE gz rfl (x:=.ref (n+2:Nat)) rfl (HK (Jg gI rfl ?_)))
 show wpAny _ _ (Builtin.SmallTypes.ownedTupleIsFree (.ref (n+4:Nat)) >>= _) _ _ _
 refine HK (m7 gz aT hf fun h₁ z1 q1 DQ=>?_)
 simp only[Ie,IP]
 simp only[<-Array.forIn_toList,KC,List.forIn_nil]
 have FN:h₁.IsListIter n l1 i:=g1.at fun o e=>q1 _ o (by omega) e
 have t1':h₁.IsList l1 xs:=t1.at fun o e=>q1 _ o (by omega) e
 refine HK (HK (HK (Jv ?_)))
 show wpAny _ _ (Builtin.SmallTypes.nextOf (.ref n) >>= _) _ _ _
 exact HK (wpAny_nextOf_list_end hh FN t1' hx fun h₂ e q2 he=>k h₂ e (fun c o c1 c2 u=>q2 _ _ c2 (q1 c o c1 u)) he)
def xq{Q:Option Value->Shared->Prop}(d1:l1 < n)(d2:l2 < n)(gz:q_ s.heap n (rawInt T) f1)(gI:IsPair s.heap (n+2:Nat) (.ref n) (.ref (n+1:Nat)))(aT:s.heap.get? T=some oT)(hf:f1 = .bool false\/f1 = .bool true)
  (g1:s.heap.IsListIter n l1 i) (g2:s.heap.IsListIter (n+1:Nat) l2 i) (t1:s.heap.IsList l1 xs) (t2:s.heap.IsList l2 ys) (hx:xs[i]?=some x) (hy:ys[i]?=some y)
  (k:∀g,q_ g n (rawInt T) (.bool true)->g.IsListIter n l1 (i+1)->g.IsListIter (n+1:Nat) l2 (i+1)->IsPair g s.heap.objs.size x y->g.objs.size=s.heap.objs.size+1->
   (∀c o,c≠n+4->c≠n->c≠n+1->s.heap.get? c=some o->g.get? c=some o)->Q (some (.ref s.heap.objs.size)) { s with heap:=g }) :
  wpAny (model prog w) A (pyNext (.ref (n+4:Nat))) Q E s:=by
 have ty:s.TypeIs (.ref (n+4:Nat)) "zip":=⟨_,gz,rfl⟩
 unfold pyNext
 exact HK (wpAny_attempt (IS (name:=Str.ofString "__next__") ty JD (Js JD ty K7
  (zG d1 d2 gz gI aT hf g1 g2 t1 t2 hx hy fun g a1 a2 a3 a4 a5 a6=>HR (k g a1 a2 a3 a4 a5 a6)) (K0 _))))
def ol{Q:Option Value->Shared->Prop}(hh:A.handled=none)(d1:l1 < n)(gz:q_ s.heap n (rawInt T) f1)(gI:IsPair s.heap (n+2:Nat) (.ref n) (.ref (n+1:Nat)))(aT:s.heap.get? T=some oT)(hf:f1 = .bool false\/f1 = .bool true)
  (g1:s.heap.IsListIter n l1 i) (t1:s.heap.IsList l1 xs) (hx:xs[i]?=none)
  (k:∀g:Heap,(∀c o,c≠n+4->c≠n->s.heap.get? c=some o->g.get? c=some o)->Q none { s with heap:=g }):wpAny (model prog w) A (pyNext (.ref (n+4:Nat))) Q E s:=by
 have ty:s.TypeIs (.ref (n+4:Nat)) "zip":=⟨_,gz,rfl⟩
 unfold pyNext
 refine HK (wpAny_attempt (IS (name:=Str.ofString "__next__") ty JD (Js JD ty K7 (yT hh d1 gz gI aT hf g1 t1 hx fun g e kk ⟨o,ho,hc⟩=>?_) (K0 _))))
 exact HK (wpAny_isInstance (T:="StopIteration") (b:=true) ⟨o,ho,hc⟩ isSubtype_stop (HR (k _ kk)))
end
noncomputable def dJ(n i:Nat):List Value:=(List.range i).map fun j=>Value.ref (n+6+j:Nat)
structure St (h:Heap) (n l1 l2:Nat) (xs ys:Vw) (i:Nat):Prop where
 sz:h.objs.size=n+6+i
 I:IsPair h (n+2:Nat) (.ref n) (.ref (n+1:Nat))
 z:∃f1,(f1 = .bool false\/f1 = .bool true)/\q_ h n (rawInt (n+6:Nat)) f1
 g1:h.IsListIter n l1 i
 g2:h.IsListIter (n+1:Nat) l2 i
 t1:h.IsList l1 xs
 t2:h.IsList l2 ys
 S:∃c,h.get? (n+5:Nat)=some { cls:=.type "list",dict:=none,data:=.seq (dJ n i).toArray c,slots:=#[] }
 its:∀j x y,j < i->xs[j]?=some x->ys[j]?=some y->IsPair h (n+6+j:Nat) x y
def om(n i:Nat):(dJ n i).toArray.push (.ref (n+6+i:Nat))=(dJ n (i+1)).toArray:=by
 unfold dJ
 rw[List.range_succ,Iz]
 simp
structure x_ (h:Heap) (n:Nat) (xs ys:Vw):Prop where
 sz:n+6+xs.size<=h.objs.size
 S:∃c,h.get? (n+5:Nat)=some { cls:=.type "list",dict:=none,data:=.seq (dJ n xs.size).toArray c,slots:=#[] }
 its:∀j x y,xs[j]?=some x->ys[j]?=some y->IsPair h (n+6+j:Nat) x y
section
variable {prog:Program} {w:World} {A:Around} {R:Result->Shared->Prop} {n l1 l2:Nat} {xs ys:Vw}
def loop(hh:A.in1.handled=none)(d1:l1 < n)(d2:l2 < n)(hxy:xs.size=ys.size)(hz:xs.size<=sizeLine)(res:Value) :
  ∀(k i:Nat) (s:Shared),xs.size - i=k->1<=i->i<=xs.size->St s.heap n l1 l2 xs ys i->
  (∀g,x_ g n xs ys->(∀b o,b < n->s.heap.get? b=some o->g.get? b=some o)->R (.ok (.ret res)) { s with heap:=g })->
  codeAny (model prog w) A (.builtin "list.extend.loop" ⟨[.ref (n+5:Nat),.ref (n+4:Nat),res],[]⟩) R s:=by
 intro k
 induction k with
 |zero=>
  intro i s hk hi hle st hR
  have hin:i=xs.size:=by omega
  subst hin
  refine Ka Ll ?_
  rw[Jy Jl _]
  show wpAny _ A.in1 (pyNext (.ref (n+4:Nat)) >>= _) _ _ s
  obtain⟨f1,hf,gz⟩:=st.z
  obtain⟨c,hS⟩:=st.S
  have h0:0 < xs.size:=by omega
  have aT:=st.its 0 (xs[0]'h0) (ys[0]'(by omega)) h0 (Ii h0) (Ii (by omega))
  have h1:xs.size - 1 < xs.size:=by omega
  have aL:=st.its (xs.size - 1) (xs[xs.size - 1]'h1) (ys[xs.size - 1]'(by omega)) h1 (Ii h1) (Ii (by omega))
  refine HK (ol hh d1 gz st.I aT hf st.g1 st.t1 (J5 (HU _)) fun g kk=>?_)
  refine HR (hR g ⟨?_,⟨c,kk _ _ (by omega) (by omega) hS⟩,fun j x y hx hy=>kk _ _ (by omega) (by omega) (st.its j x y (Ko.mp hx).1 hx hy)⟩ fun b o hb e=>kk _ _ (by omega) (by omega) e)
  have h2:n+6+(xs.size - 1) < g.objs.size:=HS (kk _ _ (by omega) (by omega) aL)
  omega
 |succ k ih=>
  intro i s hk hi hle st hR
  have hlt:i < xs.size:=by omega
  refine Ka Ll ?_
  rw[Jy Jl _]
  show wpAny _ A.in1 (pyNext (.ref (n+4:Nat)) >>= _) _ _ s
  obtain⟨f1,hf,gz⟩:=st.z
  obtain⟨c,hS⟩:=st.S
  have h0:0 < xs.size:=by omega
  have aT:=st.its 0 (xs[0]'h0) (ys[0]'(by omega)) (by omega) (Ii h0) (Ii (by omega))
  refine HK (xq d1 d2 gz st.I aT hf st.g1 st.g2 st.t1 st.t2 (x:=xs[i]) (y:=ys[i]'(by omega)) (Ii hlt) (Ii (by omega)) fun g z1 m1 m2 p1 DQ kk=>?_)
  have S1:=kk _ _ (by omega) (by omega) (by omega) hS
  have EK:s.heap.objs.size=n+6+i:=st.sz
  rw[EK]at p1 DQ
  show wpAny _ A.in1 (updateSeq (n+5:Nat) (·.push (.ref s.heap.objs.size)) >>= _) _ _ _
  refine HK ?_
  rw[EK]
  have len:(dJ n i).toArray.size=i:=by unfold dJ;simp
  have BA:∀b o,b≠n+5->g.get? b=some o->(g.update (n+5:Nat) (Obj.mapSeq (·.push (.ref (n+6+i:Nat))))).get? b=some o:=fun b o hb e=>(Je _ _ (JM hb)).trans e
  have S2:=Jf (Obj.mapSeq (·.push (Value.ref (n+6+i:Nat)))) S1 rfl
  refine KA S1 rfl (HR ⟨Kz Jl _,ih (i+1) _ (by omega) (by omega) (by omega) ⟨?_,BA _ _ (by omega) (kk _ _ (by omega) (by omega) (by omega) st.I),⟨.bool true,.inr rfl,BA _ _ (by omega) z1⟩,m1.at fun o e=>BA _ _ (by omega) e,m2.at fun o e=>BA _ _ (by omega) e,(st.t1.at fun o e=>kk _ _ (by omega) (by omega) (by omega) e).at fun o e=>BA _ _ (by omega) e,(st.t2.at fun o e=>kk _ _ (by omega) (by omega) (by omega) e).at fun o e=>BA _ _ (by omega) e,?_,?_⟩ fun g' st' EL=>?_⟩) (by rw[len];omega) (by show((dJ n i).toArray.push _).size<=sizeLine+1;rw[Array.size_push,len];omega)
  ·show(g.update _ _).objs.size=_
   rw[K8,DQ]
   omega
  ·rw[<-om]
   exact⟨_,S2⟩
  ·intro j x y hj hx hy
   by_cases e:j=i
   ·subst e
    rw[Ii hlt]at hx
    rw[Ii (by omega)]at hy
    cases hx;cases hy
    exact BA _ _ (by omega) p1
   ·exact BA _ _ (by omega) (kk _ _ (by omega) (by omega) (by omega) (st.its j x y (by omega) hx hy))
  ·exact hR g' st' fun b o hb e=>EL b o hb (BA _ _ (by omega) (kk _ _ (by omega) (by omega) (by omega) e))
def first(hh:A.in1.handled=none)(d1:l1 < n)(d2:l2 < n)(hxy:xs.size=ys.size)(h1:1<=xs.size)(hz:xs.size<=sizeLine)(res:Value)(s:Shared)(c:Nat)(sz:s.heap.objs.size=n+6)
  (gz:IsZip s.heap (n+4:Nat) (n+2:Nat) (n+3:Nat) .none) (gI:IsPair s.heap (n+2:Nat) (.ref n) (.ref (n+1:Nat))) (gO:IsPair s.heap (n+3:Nat) .none .none) (g1:s.heap.IsListIter n l1 0) (g2:s.heap.IsListIter (n+1:Nat) l2 0) (t1:s.heap.IsList l1 xs) (t2:s.heap.IsList l2 ys)
  (hS:s.heap.get? (n+5:Nat)=some { cls:=.type "list",dict:=none,data:=.seq #[] c,slots:=#[] })
  (hR:∀g,x_ g n xs ys->(∀b o,b < n->s.heap.get? b=some o->g.get? b=some o)->R (.ok (.ret res)) { s with heap:=g }) :
  codeAny (model prog w) A (.builtin "list.extend.loop" ⟨[.ref (n+5:Nat),.ref (n+4:Nat),res],[]⟩) R s:=by
 refine Ka Ll ?_
 rw[Jy Jl _]
 show wpAny _ A.in1 (pyNext (.ref (n+4:Nat)) >>= _) _ _ s
 have h0:0 < xs.size:=by omega
 refine HK (wpAny_pyNext_zip_item (PyProof.Rows.zipApart_new d1 d2) gz gI gO g1 g2 t1 t2 (x:=xs[0]'h0) (y:=ys[0]'(by omega)) (Ii h0) (Ii (by omega)) fun g z1 o1 m1 m2 p1 DQ kk=>?_)
 have S1:=kk _ _ (Zu.nn (by omega)) (Zu.nn (by omega)) (Zu.nn (by omega)) (Zu.nn (by omega)) hS
 rw[sz]at p1 DQ z1
 show wpAny _ A.in1 (updateSeq (n+5:Nat) (·.push (.ref s.heap.objs.size)) >>= _) _ _ _
 refine HK ?_
 rw[sz]
 have BA:∀b o,b≠n+5->g.get? b=some o->(g.update (n+5:Nat) (Obj.mapSeq (·.push (.ref (n+6:Nat))))).get? b=some o:=fun b o hb e=>(Je _ _ (JM hb)).trans e
 have S2:=Jf (Obj.mapSeq (·.push (Value.ref (n+6:Nat)))) S1 rfl
 have kb:∀b o,b < n->s.heap.get? b=some o->(g.update (n+5:Nat) (Obj.mapSeq (·.push (.ref (n+6:Nat))))).get? b=some o:=fun b o hb e=>BA _ _ (by omega) (kk b o (Zu.nn (by omega)) (Zu.nn (by omega)) (Zu.nn (by omega)) (Zu.nn (by omega)) e)
 refine KA S1 rfl (HR ⟨Kz Jl _,loop hh d1 d2 hxy hz res (xs.size - 1) 1 _ rfl (HU _) h1 ⟨?_,BA _ _ (by omega) (kk _ _ (Zu.nn (by omega)) (Zu.nn (by omega)) (Zu.nn (by omega)) (Zu.nn (by omega)) gI),⟨.bool false,.inl rfl,BA _ _ (by omega) z1⟩,m1.at fun o e=>BA _ _ (by omega) e,m2.at fun o e=>BA _ _ (by omega) e,t1.at fun o e=>kb _ _ d1 e,t2.at fun o e=>kb _ _ d2 e,⟨_,S2⟩,?_⟩ fun g' st' EL=>?_⟩) (by show 0<=sizeLine;omega) (by show 1<=sizeLine+1;omega)
 ·show(g.update _ _).objs.size=_
  rw[K8,DQ]
 ·intro j x y hj hx hy
  have e:j=0:=by omega
  subst e
  rw[Ii h0]at hx
  rw[Ii (by omega)]at hy
  cases hx;cases hy
  exact BA _ _ (by omega) p1
 ·exact hR g' st' fun b o hb e=>EL b o hb (kb b o hb e)
end
def mx:typeLookup (.type "zip") "__len__" = pure none:=by rw[Lg,Ke];kernel_rfl
def lw:typeLookup (.type "zip") "__length_hint__" = pure none:=by rw[Lg,Ke];kernel_rfl
section
variable {prog:Program} {w:World} {A:Around} {E:Vq} {s:Shared} {n l1 l2:Nat} {xs ys:Vw}
def lx{Q:List Value->Shared->Prop}(hh:A.handled=none)(d1:l1 < n)(d2:l2 < n)(hxy:xs.size=ys.size)(h1:1<=xs.size)(hz:xs.size<=sizeLine)(sz:s.heap.objs.size=n+5)
  (gz:IsZip s.heap (n+4:Nat) (n+2:Nat) (n+3:Nat) .none) (gI:IsPair s.heap (n+2:Nat) (.ref n) (.ref (n+1:Nat))) (gO:IsPair s.heap (n+3:Nat) .none .none) (g1:s.heap.IsListIter n l1 0) (g2:s.heap.IsListIter (n+1:Nat) l2 0) (t1:s.heap.IsList l1 xs) (t2:s.heap.IsList l2 ys)
  (hQ:∀g,x_ g n xs ys->(∀b o,b < n->s.heap.get? b=some o->g.get? b=some o)->Q (dJ n xs.size) { s with heap:=g }):wpAny (model prog w) A (collect (.ref (n+4:Nat))) Q E s:=by
 unfold collect
 refine HK (wpAny_runValue (Ka F.entry_proto_collect ?_))
 rw[Jy F.plain_proto_collect _]
 show wpAny _ A.in1 (newList [] >>= fun l=>again (.builtin "list.__iadd__" ⟨[l,.ref (n+4:Nat)],[]⟩)) _ _ s
 refine HK (Ja ?_)
 refine HR ⟨Kz F.plain_list_iadd _,Ka F.entry_list_iadd ?_⟩
 rw[Jy F.plain_list_iadd _]
 show wpAny _ A.in1 (Builtin.List.listExtendWith (.ref s.heap.objs.size) (.ref (n+4:Nat)) (.ref s.heap.objs.size)) _ _ _
 unfold Builtin.List.listExtendWith
 have p:∀{b:Nat} {o:Obj},s.heap.get? b=some o->(s.heap.push { cls:=.type "list",data:=.seq ([]:Vv).toArray }).get? b=some o:=fun e=>HN _ e
 have hT:Shared.TypeIs { s with heap:=s.heap.push { cls:=.type "list",data:=.seq ([]:Vv).toArray } } (.ref (n+4:Nat)) "zip":=⟨_,p gz,rfl⟩
 refine HK (KU hT ?_)
 have e1:Builtin.List.listSameRef (.ref s.heap.objs.size) (.ref (n+4:Nat))=false:=by rw[sz];simp[Builtin.List.listSameRef]
 have e2:(Value.type "zip" == Value.type "list")=false:=by decide
 have e3:(Value.type "zip" == Value.type "tuple")=false:=by decide
 simp only[e1,e2,e3,Bool.or_false,Ie,IP]
 refine HK (wpAny_pyIter_zip (s:={ s with heap:=s.heap.push { cls:=.type "list",data:=.seq ([]:Vv).toArray } }) (p gz) ?_)
 refine HK (Jv ?_)
 unfold Builtin.List.listLengthHint
 refine HK (Lh hT mx ?_)
 show wpAny _ A.in1 (specialOf (Value.ref (n+4:Nat)) (Str.ofString "__length_hint__") >>= _) _ _ _
 refine HK (Lh hT lw ?_)
 refine HR ?_
 show wpAny _ A.in1 (rule "list.extend.makes-room" >>= fun _=>Builtin.List.listTouch (.ref s.heap.objs.size) >>= fun _=>
  again (.builtin "list.extend.loop" ⟨[.ref s.heap.objs.size,.ref (n+4:Nat),.ref s.heap.objs.size],[]⟩)) _ _ _
 refine HK (KH ?_)
 have Gq:(s.heap.push { cls:=.type "list",data:=.seq ([]:Vv).toArray }).get? s.heap.objs.size=some { cls:=.type "list",data:=.seq ([]:Vv).toArray }:=Ia _ rfl
 refine HK ?_
 show wpAny _ A.in1 (updateSeq s.heap.objs.size (·.push .none) >>= fun _=>updateSeq s.heap.objs.size (·.pop)) _ _ _
 refine HK (KA Gq rfl ?_)
 have E8:=Jf (Obj.mapSeq (·.push Value.none)) Gq rfl
 refine KA E8 rfl ?_
 have FQ:=Jf (Obj.mapSeq (·.pop)) E8 rfl
 have BA:∀b o,b≠s.heap.objs.size->(s.heap.push { cls:=.type "list",data:=.seq ([]:Vv).toArray }).get? b=some o->
   (((s.heap.push { cls:=.type "list",data:=.seq ([]:Vv).toArray }).update s.heap.objs.size (Obj.mapSeq (·.push Value.none))).update s.heap.objs.size (Obj.mapSeq (·.pop))).get? b=some o:=
  fun b o hb e=>(Je _ _ (JM hb)).trans ((Je _ _ (JM hb)).trans e)
 have q:∀{b:Nat} {o:Obj},s.heap.get? b=some o->(((s.heap.push { cls:=.type "list",data:=.seq ([]:Vv).toArray }).update s.heap.objs.size (Obj.mapSeq (·.push Value.none))).update s.heap.objs.size (Obj.mapSeq (·.pop))).get? b=some o:=
  fun{b o} e=>BA b o (Iq (HS e)) (p e)
 have Gr:(((s.heap.push { cls:=.type "list",data:=.seq ([]:Vv).toArray }).update s.heap.objs.size (Obj.mapSeq (·.push Value.none))).update s.heap.objs.size (Obj.mapSeq (·.pop))).objs.size=n+6:=by
  rw[K8,K8,Jx,sz]
 show wpAny _ A.in1 (again (.builtin "list.extend.loop" ⟨[.ref s.heap.objs.size,.ref (n+4:Nat),.ref s.heap.objs.size],[]⟩)) _ _ { s with heap:=(((s.heap.push { cls:=.type "list",data:=.seq ([]:Vv).toArray }).update s.heap.objs.size (Obj.mapSeq (·.push Value.none))).update s.heap.objs.size (Obj.mapSeq (·.pop))) }
 generalize (((s.heap.push { cls:=.type "list",data:=.seq ([]:Vv).toArray }).update s.heap.objs.size (Obj.mapSeq (·.push Value.none))).update s.heap.objs.size (Obj.mapSeq (·.pop)))=h2 at FQ q Gr
 rw[sz]at FQ ⊢
 refine HR ⟨Kz Jl _,first (A:=A) hh d1 d2 hxy h1 hz _ _ _ Gr (q gz) (q gI) (q gO) (g1.at fun o e=>q e) (g2.at fun o e=>q e) (t1.at fun o e=>q e) (t2.at fun o e=>q e) FQ fun g st kk=>?_⟩
 obtain⟨c,hS⟩:=st.S
 show wpAny _ A (load (n+5:Nat) >>= _) _ _ _
 refine HK (wpAny_load hS ?_)
 exact HR (by simpa using hQ g st fun b o hb e=>kk b o hb (q e))
def my{Q:Vq}(hh:A.handled=none)(d1:l1 < n)(d2:l2 < n)(hxy:xs.size=ys.size)(h1:1<=xs.size)(hz:xs.size<=sizeLine)(sz:s.heap.objs.size=n+5)
  (gz:IsZip s.heap (n+4:Nat) (n+2:Nat) (n+3:Nat) .none) (gI:IsPair s.heap (n+2:Nat) (.ref n) (.ref (n+1:Nat))) (gO:IsPair s.heap (n+3:Nat) .none .none) (g1:s.heap.IsListIter n l1 0) (g2:s.heap.IsListIter (n+1:Nat) l2 0) (t1:s.heap.IsList l1 xs) (t2:s.heap.IsList l2 ys)
  (hQ:∀g,x_ g n xs ys->(∀b o,b < n->s.heap.get? b=some o->g.get? b=some o)->Q (.ref g.objs.size) { s with heap:=g.push { cls:=.type "tuple",data:=.seq (dJ n xs.size).toArray } }):wpAny (model prog w) A (call (.type "tuple") [.ref (n+4:Nat)]) Q E s:=by
 have hT:s.TypeIs (.ref (n+4:Nat)) "zip":=⟨_,gz,rfl⟩
 refine callType_codes (Q₁:=fun obj s₁=>s₁.TypeIs obj "tuple"/\Q obj s₁) F.called_tuple (F.typeCall_tuple_1 _) F.entry_object_init ?_ fun obj s₁ h₁=>
  ⟨h₁.1,F.args_object_init_2 obj _,object_init_meets F.called_tuple.init.lookup F.called_tuple.made (by decide) prog w A.in1 _ s₁ ⟨h₁.1,rfl,h₁.2⟩⟩
 refine codeAny_of_tree ?_
 show wpAny _ A.in1.in1 (do checkBuiltinCall "tuple.__new__" ⟨[.type "tuple",.ref (n+4:Nat)],[]⟩;again (.builtin "tuple.__new__" ⟨[.type "tuple",.ref (n+4:Nat)],[]⟩)) _ _ s
 refine HK (wpAny_of_eq (F.newCall_tuple_1 _) (HR ⟨Kz F.plain_tuple_new _,Ka F.entry_tuple_new ?_⟩))
 rw[Jy F.plain_tuple_new _]
 have hsub:=sub_tuple_self
 have Gs:=init_tuple_lookup
 have hmh:=madeHere_tuple
 wp_walk using KU hT,lx (A:=A.in1.in1) hh d1 d2 hxy h1 hz sz gz gI gO g1 g2 t1 t2
 intro g st kk
 show wpAny _ _ (Builtin.Tuple.tupleExact (dJ n xs.size).toArray >>= fun v=>ret v) _ _ _
 unfold Builtin.Tuple.tupleExact
 refine HK (Ja ?_ (by show(dJ n xs.size).toArray.size<=sizeLine;unfold dJ;simpa using hz))
 exact HR ⟨⟨_,Ia _ rfl,rfl⟩,hQ g st kk⟩
end
end Zv
namespace L2
open PySem PySem.Spec PyProof.Rows
structure DE (K:Vo) (x:Str) (st:Stmt) (T:Addr) (f:Addr) (fd:FuncData):Prop where
 ex:∃(oc:Value) (od:Option Addr) (kV doc pm:Value) (an:Option Addr) (cdv ct:Value) (osl:Array (Option Value)),
  fd=PySem.W.fnOf x x (bv st) (aV st) (aw st) (.ref T) kV doc pm an cdv ct/\K.lookup f=some ⟨oc,od,.func fd,osl⟩/\PySem.W.codeIn K cdv x=true
 kp:PySem.W.keepIn K (.ref f)=true
section
variable {P:Program} {w:World} {K:Vo} {mg:Vr} {base:Heap}
def DE.ok{x:Str}{st:Stmt}{T f:Addr}{fd:FuncData}{N ps:Vs}{k:Nat}{sp:Sp}(F:DE K x st T f fd)(S:cv N ps (aw st))(len:∀vs H Q E,sp vs H Q E->vs.length=ps.length)
  (hbody:∀(cdv:Value) (A:Around) (outer:List Env) (s:Shared) (H:Hp) (vs:List V) (Q:VK) (E:XK),Room k (A.deeper (envOfC x (aw st) s.heap.objs.size f cdv))->sp vs H Q E->
   ∃t,Ct (k9 qY P w K mg base N x (aw st) f cdv A outer s H E).Ea (aV st) t/\t { nx:=fun _ H'=>Q .non H',rt:=Q } (d3 N vs) H):jB P w K mg base qY (k+1) f fd ps sp:=by
 obtain⟨oc,od,kV,doc,pm,an,cdv,ct,osl,rfl,lk,hcd⟩:=F.ex
 refine tL lk hcd S len fun A outer s H vs Q E hr Ds=>?_
 obtain⟨t,h,q⟩:=hbody cdv A outer s H vs Q E hr Ds
 exact⟨t,h.Ea,q⟩
end
section
variable {X:Cx}
def sK(K:Vo)(H:Hp)(r:Addr)(xs ys:List V):Prop:=∃ps:List Addr,SqT K H r (ps.map V.ref)/\ps.length=xs.length/\∀(j:Nat) p x y,ps[j]?=some p->xs[j]?=some x->ys[j]?=some y->H p=some (.tup [x,y])
def xu(K:Vo)(ta:TA):TE:=fun σ H Q=>ta σ H fun vs H1=>∃a b xs ys,vs=[.ref a,.ref b]/\H1 a=some (.lst xs)/\H1 b=some (.lst ys)/\xs.length=ys.length/\1<=xs.length/\∀r H',(∀c o,H1 c=some o->H' c=some o)->sK K H' r xs ys->Q (.ref r) H'
theorem ir{pins:Va}{σ:St}{H:Hp}{s0 s:Shared}{n:Nat}{xs ys:List V}{ix iy:Vv}(I0:Inv X pins σ H s0)(hn:s0.heap.objs.size=n)(I:Inv X pins σ H s)(rx:Vals xs ix)(ry:Vals ys iy)(hl:xs.length=ys.length)
  (hp:∀(j:Nat) u v,ix[j]?=some u->iy[j]?=some v->IsPair s.heap (n+6+j:Nat) u v):∀k,k<=xs.length->∃H',Inv X pins σ H' s/\(∀c o,H c=some o->H' c=some o)/\(∀(j:Nat) x y,j < k->xs[j]?=some x->ys[j]?=some y->H' (n+6+j:Nat)=some (.tup [x,y]))/\∀c:Nat,n+6+k<=c->H' c=none
 |0,_=>⟨H,I,fun _ _ h=>h,fun j x y h=>absurd h (Nat.not_lt_zero _),fun c hc=>I0.hok.fresh (show s0.heap.objs.size<=c by omega)⟩
 |k+1,hk=>by
  obtain⟨H',I',e',p',f'⟩:=ir I0 hn I rx ry hl hp k (by omega)
  have hkx:k < xs.length:=by omega
  have Gu:k < ys.length:=by omega
  obtain⟨u,hu,ru⟩:=rx.get (Ig hkx)
  obtain⟨v,hv,rv⟩:=ry.get (Ig Gu)
  have hD:H' (n+6+k:Nat)=none:=f' _ (HU _)
  have fp:dm X pins H' (n+6+k:Nat):=I0.BG (show s0.heap.objs.size<=(n+6+k:Nat) by omega) hD
  have eT:As s.heap (n+6+k:Nat) [u,v].toArray:=⟨_,hp k u v hu hv,rfl,rfl,_,rfl⟩
  refine⟨_,I'.B3 fp eT (.cons ru (.cons rv .nil)) (by show 2<=sizeLine;decide),fun c o h=>?_,fun j x y hj hx hy=>?_,fun c hc=>?_⟩
  ·rw[av (aM (e' c o h) hD)];exact e' c o h
  ·by_cases e:j=k
   ·subst e
    rw[Ig hkx]at hx
    rw[Ig Gu]at hy
    cases hx;cases hy
    exact ax
   ·rw[av (Zu.nn (by omega))];exact p' j x y (by omega) hx hy
  ·rw[av (Zu.nn (by omega))];exact f' c (by omega)
def sL{a b:Expr}{ta:TA}{p1 p2 q1 q2:Pos}(hc:X.calm=true)(ha:PA X [a,b] ta)(Ei:Gl X "tuple")(hm1:X.mg "tuple" = none)(DC:Gl X "zip")(hm2:X.mg "zip" = none)
  (hs:starEach [a,b] X.env=[(false,eval a X.env),(false,eval b X.env)]) (Fb:starEach [b] X.env=[(false,eval b X.env)]) (hs2:starEach [.Call (.Name "zip" p2) [a,b] [] q2] X.env=[(false,eval (.Call (.Name "zip" p2) [a,b] [] q2) X.env)]:=by rfl) :
  PE X (.Call (.Name "tuple" p1) [.Call (.Name "zip" p2) [a,b] [] q2] [] q1) (xu X.K ta):=by
 intro pins s σ H Q I h
 refine Jr (df I Ei hm1 (u:=.type "tuple") (by decide +kernel) ?_)
 refine IC ?_ hs2 rfl
 rw[hs2]
 show wpAny _ _ (spliced ((false,eval (.Call (.Name "zip" p2) [a,b] [] q2) X.env)::backTo q1 [])) _ _ s
 refine Ji ?_
 refine Jr (df I DC hm2 (u:=.type "zip") (by decide +kernel) ?_)
 refine IC (zX (ha q2 pins s σ H _ I h) fun us s1 ⟨vs,H1,I1,r1,q1⟩=>?_) (by rw[hs,Fb]) (by rw[Fb];rfl)
 obtain⟨a,b,xs,ys,e,qa,qb,hl,h1,q⟩:=q1
 subst e
 obtain⟨u,v,rfl,ru,rv⟩:=oW r1
 cases ru
 cases rv
 obtain⟨ia,ra,pa,za⟩:=I1.list (SqL.of qa)
 obtain⟨ib,rb,pb,zb⟩:=I1.list (SqL.of qb)
 have Hd:=ra.length
 have lrb:=rb.length
 have la:a < s1.heap.objs.size:=by obtain⟨o,e,_⟩:=pa.isList;exact HS e
 have lb:b < s1.heap.objs.size:=by obtain⟨o,e,_⟩:=pb.isList;exact HS e
 refine call_zip_2 pa.isList pb.isList fun g gz gI gO g1 g2 He kk=>?_
 refine JR ?_
 refine Zv.my (s:={ s1 with heap:=g }) (n:=s1.heap.objs.size) (I.ok.hd hc) la lb (by rw[HQ,HQ];omega) (by rw[HQ];omega) (by rw[HQ,<-Hd];exact za) He gz gI gO g1 g2 (pa.isList.at fun o e=>kk _ _ e) (pb.isList.at fun o e=>kk _ _ e) fun g' st EL=>?_
 have key:∀c o,s1.heap.get? c=some o->(g'.push { cls:=.type "tuple",data:=.seq (Zv.dJ s1.heap.objs.size ia.toArray.size).toArray }).get? c=some o:=fun c o e=>HN _ (EL c o (HS e) (kk c o e))
 have I2:Inv X pins σ H1 { s1 with heap:=g'.push { cls:=.type "tuple",data:=.seq (Zv.dJ s1.heap.objs.size ia.toArray.size).toArray } }:=I1.kept (t':=s1.toks) key
 obtain⟨H',I3,e3,p3,f3⟩:=ir I1 rfl I2 ra rb hl (fun j u v hu hv=>HN _ (st.its j u v (by simpa using hu) (by simpa using hv))) xs.length (HU _)
 have sz:=st.sz
 have EK:ia.toArray.size=xs.length:=by rw[HQ];omega
 rw[EK]at sz
 have hD:H' g'.objs.size=none:=f3 _ sz
 have fp:dm X pins H' g'.objs.size:=I1.BG (Ik (by omega) sz) hD
 have ps:∀m:Nat,Vals (((List.range m).map fun j=>(s1.heap.objs.size+6+j:Nat)).map V.ref) (Zv.dJ s1.heap.objs.size m):=fun m=>by
  unfold Zv.dJ
  rw[JH]
  induction (List.range m)with
  |nil=>exact .nil
  |cons x r ih=>exact .cons rfl ih
 have eT:As (g'.push { cls:=.type "tuple",data:=.seq (Zv.dJ s1.heap.objs.size ia.toArray.size).toArray }) g'.objs.size (Zv.dJ s1.heap.objs.size xs.length).toArray:=⟨_,Ia _ rfl,rfl,rfl,_,by rw[EK]⟩
 have I4:=I3.B3 fp eT (ps xs.length) (by rw[HM,HM,Lu];exact za)
 refine⟨.ref g'.objs.size,_,I4,rfl,q _ _ (fun c o z=>by rw[av (aM (e3 c o z) hD)];exact e3 c o z) ⟨_,SqT.of ax,by rw[HM,Lu],fun j p x y hp hx hy=>?_⟩⟩
 have hj:j < xs.length:=(Im.mp hx).1
 rw[HY,Kw hj]at hp
 cases hp
 have z:=p3 j x y hj hx hy
 show upd H' g'.objs.size _ (s1.heap.objs.size+6+j:Nat)=_
 rw[av (aM z hD)]
 exact z
end
end L2
namespace L3
open PySem L2
section
variable {P:Program} {w:World} {K:Vo} {mg:Vr} {base:Heap}
def yU{x:Str}{st:Stmt}{T f:Addr}{fd:FuncData}{N ps:Vs}{k:Nat}{t:bC}(F:DE K x st T f fd)(S:cv N ps (aw st))
  (hbody:∀(cdv:Value) (A:Around) (outer:List Env) (s:Shared) (H:Hp) (E:XK),Room k (A.deeper (PyProof.Rows.envOfC x (aw st) s.heap.objs.size f cdv))->gJ (xj P w K mg base N x st f cdv A outer s H E) (aV st) t) :
  Dw P w K mg base (k+1) f fd ps (Ab N.length t):=
 ⟨F.ok S (fun vs H Q E h=>h.1) fun cdv A outer s H vs Q E hr ⟨hl,ps',S',Q3,E3,rv,rS,q,kk⟩=>⟨_,(hbody cdv A outer s H E hr).ok,az N.length ps',S',_,j6 rv,rS,q,.no,fun σ3 S2 σ2 H2 h2 _ Bn g2=>kk _ S2 _ H2 h2 .non Bn g2,kk,fun _ _ _ _ h2=>h2.elim,fun _ _ _ _ h2=>h2.elim⟩⟩
structure yV (K:Vo) (mg:Vr) (x:Str) (st:Stmt) (ps:Vs) (T:Addr) (f:Addr) (fd:FuncData):Prop where
 F:DE K x st T f fd
 b:Binds K fd ps []
 d:Binds K fd ps [.bool true]
 k:PySem.W.keepIn K (.ref f)=true
 m:mg x=some (.ref f)
end
section
variable {X:Cx} {e o:Expr} {es:List Expr} {te to:aO} {ts:List aO} {x:Str} {p pos apos cpos:Pos} {k:Nat} {f:Addr} {fd:FuncData} {ps:Vs} {sp:aA}
def gT(sp:aA)(ts:List aO):aO:=fun σ S Q E=>ap ts σ S (fun ps S1=>sp (ps++[.bl true]) S1 Q E) E
def sM(F:Dw X.prog X.w X.K X.mg X.base k f fd ps sp)(hr:Room k X.A)(hg:Gl X x)(hm:X.mg x=some (.ref f))(hk:PySem.W.keepIn X.K (.ref f)=true)(hb:Binds X.K fd ps [.bool true])(he:starEach (e::es) X.env=(false,eval e X.env)::starEach es X.env)(ha:iD X (e::es) ts)
  (hl:ts.length+1=ps.length:=by rfl) (hdb:(x == ("__debug__":Str))=false:=by decide) (hpl:(backTo pos (starEach es X.env)).any (·.1)=false:=by rfl):aX X (.Call (.Name x p) (e::es) [] pos) (gT sp ts):=
 ⟨aH (mP (dvs:=[.bl true]) F.ok hr hg hm hk hb (.cons rfl .nil) tO ha.ok hdb he hpl) fun σ H Q ⟨σ3,S,Q3,E3,rσ,rS,h,xo,k⟩=>bL rσ rS h xo fun ps' S' vs H' hl' q rv By g=>by
  refine⟨by rw[HL,rv.length,hl'];exact hl,ps'++[.bl true],S',Q3,E3,rv.append (.cons (.bl true) .nil),By,q,k.mono g⟩⟩
end
section
variable {X:Cx} {a b:Expr} {ta tb:aO}
def qr(ta tb:aO):aO:=fun σ S Q E=>ta σ S (fun v S1=>tb σ S1 (fun w S2=>match v,w with
 | .ref a,.ref b=>(match S2 a,S2 b with|some (.lst xs),some (.lst ys)=>xs.length=ys.length/\1<=xs.length/\Q (.tup (bc xs ys)) S2|_,_=>False)
 |_,_=>False) E) E
theorem m8{K:Vo}{H:Hp}:∀{vs:List V} {ps:List PV},vs.length=ps.length->(∀(j:Nat) v p,vs[j]?=some v->ps[j]?=some p->Rep K H v p)->Reps K H vs ps
 |[],[],_,_=>.nil
 |[],_::_,h,_=>by cases h
 |_::_,[],h,_=>by cases h
 |v::vs,p::ps,h,f=>.cons (f 0 v p rfl rfl) (m8 (by simpa using h) fun j v' p' h1 h2=>f (j+1) v' p' (by simpa using h1) (by simpa using h2))
def vy{p1 p2 q1 q2:Pos}(hs:starEach [a,b] X.env=[(false,eval a X.env),(false,eval b X.env)])(Fb:starEach [b] X.env=[(false,eval b X.env)])(hc:X.calm=true)(Ei:Gl X "tuple")(hm1:X.mg "tuple" = none)(DC:Gl X "zip")(hm2:X.mg "zip" = none)(ha:iD X [a,b] [ta,tb]) :
  aX X (.Call (.Name "tuple" p1) [.Call (.Name "zip" p2) [a,b] [] q2] [] q1) (qr ta tb):=
 ⟨aH (sL hc ha.ok Ei hm1 DC hm2 hs Fb) fun σ H Q ⟨σ3,S,Q3,E3,rσ,rS,h,xo,k⟩=>⟨σ3,S,_,E3,rσ,rS,h,xo,fun v S1 v' H1 h1 rv z0 g1=>⟨σ3,S1,_,E3,rσ.mono g1,z0,h1,xo.mono g1,fun w S2 w' H2 h2 rw' Bn g2=>by
  split at h2
  ·cases rv
   cases rw'
   split at h2
   ·rename_i ea eb
    obtain⟨vs,hv,rs⟩:=Bn _ _ ea
    obtain⟨us,hu,rt⟩:=Bn _ _ eb
    have l1:=rs.length
    have l2:=rt.length
    refine⟨_,_,vs,us,rfl,hv,hu,by omega,by omega,fun r H' hh ⟨ps,hr,hpl,hp⟩=>k _ S2 _ H' h2.2.2 (.tup hr (m8 ?_ fun j v p hv' hp'=>?_)) (Bn.grow hh) ((g1.trans g2).trans (.same hh))⟩
    ·rw[HM];unfold bc;rw[HM,List.length_zip];omega
    ·unfold bc at hp'
     rw[HY]at hp' hv'
     cases hz:(_:List (PV×PV))[j]? with
     |none=>rw[hz]at hp';cases hp'
     |some z=>
      rw[hz]at hp'
      cases hp'
      obtain⟨e1,e2⟩:=Kv.mp hz
      obtain⟨x,hx,rx⟩:=rs.get e1
      obtain⟨y,hy,ry⟩:=rt.get e2
      cases hq:ps[j]? with
      |none=>rw[hq]at hv';cases hv'
      |some q=>
       rw[hq]at hv'
       cases hv'
       exact .tup (SqT.of (hp j q x y hq hx hy)) (.cons (rx.mono (.same hh)) (.cons (ry.mono (.same hh)) .nil))
   ·exact h2.elim
  ·exact h2.elim⟩⟩⟩
end
end L3
namespace L2
open PySem PySem.Spec PyProof.Rows
noncomputable def gh(its:Vw)(z:Str)(u:Tok)(i:Nat)(_:Option Fin×Unit):Sem (ForInStep (Option Fin×Unit)):=
 match its[i]? with
 |some y=>do
  let __do_lift <-eqBool y (Value.str z u)
  if __do_lift=true then do
   let __do_lift <-retInt (i:Int)
   pure (ForInStep.done (some __do_lift,()))
  else pure (ForInStep.yield (none,()))
 |_=>pure (ForInStep.yield (none,()))
theorem ly{prog:Program}{w:World}{A:Around}{E:Vq}{z:Str}{u:Tok}{its:Vw}{k:Nat}{Q:Option Fin×Unit->Shared->Prop}(hk:∃t,its[k]?=some (.str z t)) :
  ∀(m i:Nat) (s:Shared),i+m=its.size->i<=k->(∀j v,i<=j->j < k->its[j]?=some v->∃a t,v = .str a t/\a≠z)->(∀tk,Q (some (.done (.ret (.int k tk))),()) { s with toks:=s.toks+1 })->
  wpAny (model prog w) A (forIn (List.range' i m 1) ((none,()):Option Fin×Unit) (gh its z u)) Q E s
 |0,i,s,hm,hi,h,q=>by
  obtain⟨t,hk⟩:=hk
  have:=(Ko.mp hk).1
  omega
 |m+1,i,s,hm,hi,h,q=>by
  rw[List.range'_succ,KC]
  have hlt:i < its.size:=by omega
  by_cases e:i=k
  ·subst e
   obtain⟨t,hk⟩:=hk
   refine HK ?_
   unfold gh
   rw[hk]
   refine HK (wpAny_eqBool_str ?_)
   rw[IU rfl,if_pos rfl]
   exact HK (HK (wpAny_mkInt (HR (HR (HR (q _))))))
  ·have hv:=Ii hlt
   obtain⟨a,t,ea,ne⟩:=h i _ (HU _) (by omega) hv
   refine HK ?_
   have eb:gh its z u i (none,())=(do let __do_lift <-eqBool (Value.str a t) (Value.str z u);if __do_lift=true then do { let __do_lift <-retInt (i:Int);pure (ForInStep.done (some __do_lift,())) } else pure (ForInStep.yield (none,()))):=by
    unfold gh
    rw[hv,ea]
   rw[eb]
   refine HK (wpAny_eqBool_str ?_)
   rw[Iu ne,if_neg (by decide)]
   exact HR (ly hk m (i+1) s (by omega) (by omega) (fun j v h1 h2=>h j v (by omega) h2) q)
def vz(l:Addr)(its:Vw)(n:Nat)(dd:Option Addr)(sl:Array (Option Value))(z:Str)(u:Tok)(k:Nat)(hk:∃t,its[k]?=some (.str z t))(h:∀j v,j < k->its[j]?=some v->∃a t,v = .str a t/\a≠z) :
  Meets (Builtin.«tuple.index» ⟨[.ref l,.str z u],[]⟩) (fun _ R s=>s.heap.get? l=some { cls:=.type "tuple",dict:=dd,data:=.seq its n,slots:=sl }/\∀tk,R (.ok (.ret (.int k tk))) { s with toks:=s.toks+1 }):=
 .of_wp fun prog w A R s hh=>by
  obtain⟨hp,g,d,tk,os⟩:=s;obtain⟨hl,q⟩:=hh
  wp_walk using KG hl
  show wpAny _ _ (forIn (⟨0,min its.size its.size,1,Nat.one_pos⟩:Std.Legacy.Range) ((none,()):Option Fin×Unit) (gh its z u)) _ _ _
  rw[Std.Legacy.Range.forIn_eq_forIn_range']
  have e:Std.Legacy.Range.size ⟨0,min its.size its.size,1,Nat.one_pos⟩=its.size:=by unfold Std.Legacy.Range.size;simp
  rw[e]
  exact ly hk its.size 0 _ (by omega) (IA _) (fun j v _ hj hv=>h j v hj hv) fun tk'=>HR ⟨_,rfl,q tk'⟩
section
variable {X:Cx}
noncomputable def sN(K:Vo):V->List V->Hp->VK->Prop:=fun x vs H Q=>∃(l:Addr) (zs:Vs) (z:Str) (k:Nat),x = .ref l/\vs=[.str z]/\SqT K H l (zs.map V.str)/\zs[k]?=some z/\(∀j:Nat,j < k->zs[j]?≠some z)/\Q (.int k) H
def on:uO X "tuple.index" (sN X.K):=by
 intro pins s σ H x vs v us Q I rx rv h
 obtain⟨l,zs,z,k,rfl,rfl,hT,hk,hf,q⟩:=h
 cases rx
 obtain⟨w,rfl,u,rfl⟩:=fY rv
 obtain⟨its,r1,p1,_⟩:=I.tuple hT
 obtain⟨⟨cls,dd,data,sl⟩,ho,hc,n,hd⟩:=id p1
 simp only at hc hd
 subst hc hd
 refine KJ PySem.F.slot_tuple_index ⟨_,ho,rfl⟩ PySem.F.entry_tuple_index (PySem.F.args_tuple_index_2 _ _) (vz l its.toArray n dd sl z u k ?_ ?_) ⟨ho,fun tk=>⟨.int k,H,I.tok _,⟨_,rfl⟩,q⟩⟩
 ·obtain⟨v,hv,t,rfl⟩:=r1.get (i:=k) (x:=.str z) (by rw[HY,hk];rfl)
  exact⟨t,by simpa using hv⟩
 ·intro j v hj hv
  have hjl:j < its.length:=by simpa using(Ko.mp hv).1
  have hl:=r1.length
  rw[HM]at hl
  obtain⟨v',hv',t,rfl⟩:=r1.get (i:=j) (x:=.str (zs[j]'(by omega))) (by rw[HY,Ig (by omega)];rfl)
  have e:v = .str (zs[j]'(by omega)) t:=by
   have h1:its[j]?=some v:=by simpa using hv
   rw[hv']at h1;cases h1;rfl
  exact⟨_,t,e,fun h=>hf j hj (by rw[Ig (by omega),h])⟩
def sO{pins:Va}{σ:St}{H:Hp}{s:Shared}{a:Addr}{xs:List V}(I:Inv X pins σ H s)(h:SqT X.K H a xs):s.TypeIs (.ref a) "tuple"/\∀b,Value.ref a = .ref b->∃ob,s.heap.get? b=some ob/\ob.dict=none:=by
 rcases h with h|⟨o,its,n,hk,hc,hd,_⟩
 ·obtain⟨z,its,r,o,e,hd,hc,_⟩:=h.ok I.hok
  exact⟨⟨o,e,hc⟩,fun b q=>by cases q;exact⟨o,e,hd⟩⟩
 ·exact⟨⟨o,I.De a o hk,hc⟩,fun b q=>by cases q;exact⟨o,I.De _ o hk,hd⟩⟩
variable {o e:Expr} {es:List Expr} {to:TE} {t:TA} {name:Str} {apos cpos:Pos} {id:String} {r:V->List V->Hp->VK->Prop}
def yW(K:Vo)(r:V->List V->Hp->VK->Prop)(to:TE)(t:TA):TE:=fun σ H Q=>to σ H fun x H1=>(∃a xs,x = .ref a/\SqT K H1 a xs)/\t σ H1 fun xs H2=>r x xs H2 Q
def vA(pa:PlainAttrs "tuple")(slot:Slot "tuple" name id)(hty:typeOf (.builtin id)=pure (.type "method_descriptor"))(hm:uO X id r)(ho:PE X o to)(ha:PA X (e::es) t)
  (hbase:attributeBase o name X.env (eval o X.env)=eval o X.env:=by rfl)
  (hfew:((backTo cpos (starEach (e::es) X.env)).all (fun x=>!x.1)&&(backToKw cpos (keywordEach [] X.env)).all (fun x=>x.1.isSome)
   && decide ((e::es).length+([]:List Keyword).length+(if ([]:List Keyword).isEmpty then 0 else 1) < 30))=true:=by rfl)
  (hline:(apos.endLine == cpos.line)=true:=by rfl) (hs:starEach (e::es) X.env=(false,eval e X.env)::starEach es X.env:=by rfl) (hplain:(backTo cpos (starEach es X.env)).any (·.1)=false:=by rfl) :
  PE X (.Call (.Attribute o name apos) (e::es) [] cpos) (yW X.K r to t):=by
 intro pins s σ H Q I h
 refine wpAny_Call_method_late hbase hfew hline rfl (zX (ho pins s σ H _ I h) fun v s1 ⟨x,H1,I1,r1,⟨a,xs,ex,hT⟩,q1⟩=>?_)
 subst ex
 have r1':=r1
 cases r1
 obtain⟨h1,h2⟩:=sO I1 hT
 refine⟨"tuple",id,pa,slot,hty,h1,h2,?_⟩
 have hA:=ha cpos pins s1 σ H1 _ I1 q1
 rw[hs]at hA ⊢
 refine JG (by show(false || (backTo cpos (starEach es X.env)).any (·.1))=false;rw[hplain]<;>rfl) (Kl ?_)
 exact zX hA fun us s2 ⟨vs,H2,I2,r2,q2⟩=>hm pins s2 σ H2 _ vs _ us Q I2 r1' r2 q2
end
end L2
namespace L3
open PySem L2
section
variable {X:Cx}
noncomputable def fH:List PV->Option (List Str)
 |[]=>some []
 | .str z::r=>(fH r).map (z::·)
 |_::_=>none
theorem jh:∀zs:List Str,fH (zs.map PV.str)=some zs
 |[]=>rfl
 |z::r=>by show(fH (r.map PV.str)).map (z::·)=_;rw[jh r];rfl
theorem j_:∀{ps:List PV} {zs:Vs},fH ps=some zs->ps=zs.map PV.str
 |[],zs,h=>by cases h;rfl
 | .str z::r,zs,h=>by
  unfold fH at h
  cases e:fH r with
  |none=>rw[e]at h;cases h
  |some ws=>rw[e]at h;cases h;rw[j_ e];rfl
def iQ:mn:=fun x ps S Q=>match x,ps with
 | .tup xs,[.str z]=>(match fH xs with|some zs=>∃k:Nat,zs[k]?=some z/\(∀j:Nat,j < k->zs[j]?≠some z)/\Q (.int k) S|none=>False)
 |_,_=>False
theorem kc{K:Vo}{H:Hp}:∀{vs:List V} {zs:Vs},Reps K H vs (zs.map PV.str)->vs=zs.map V.str
 |[],[],_=>rfl
 |v::vs,z::zs,.cons a r=>by cases a;rw[kc r];rfl
def qt:oH X "tuple.index" iQ:=⟨fun pins s σ H x xs v us Q I rx rs ⟨px,ps,S,Q3,r1,rp,rS,q,k⟩=>by
 unfold iQ at q
 split at q
 ·split at q
  ·rename_i e
   obtain⟨j,hk,hf,q⟩:=q
   cases r1 with
   |tup hq rs'=>
    rw[j_ e]at rs'
    have ev:=kc rs'
    subst ev
    cases rp with
    |cons b rr=>
     cases rr;cases b
     exact on pins s σ H _ _ v us Q I rx rs ⟨_,_,_,j,rfl,rfl,hq,hk,hf,k _ S _ H q (.int _) rS .refl⟩
  ·exact q.elim
 ·exact q.elim⟩
variable {o e:Expr} {es:List Expr} {to:aO} {ts:List aO} {name:Str} {apos cpos:Pos} {id:String}
def vB(r:mn)(to:aO)(ts:List aO):aO:=fun σ S Q E=>to σ S (fun x S1=>match x with | .tup _=>ap ts σ S1 (fun ps S2=>r x ps S2 Q) E|_=>False) E
def xv{r:mn}(pa:PlainAttrs "tuple")(slot:Slot "tuple" name id)(hty:typeOf (.builtin id)=pure (.type "method_descriptor"))(hm:oH X id r)(hs:starEach (e::es) X.env=(false,eval e X.env)::starEach es X.env)(ho:aX X o to)(ha:iD X (e::es) ts)
  (hbase:attributeBase o name X.env (eval o X.env)=eval o X.env:=by rfl)
  (hfew:((backTo cpos (starEach (e::es) X.env)).all (fun x=>!x.1)&&(backToKw cpos (keywordEach [] X.env)).all (fun x=>x.1.isSome)
   && decide ((e::es).length+([]:List Keyword).length+(if ([]:List Keyword).isEmpty then 0 else 1) < 30))=true:=by rfl)
  (hline:(apos.endLine == cpos.line)=true:=by rfl) (hplain:(backTo cpos (starEach es X.env)).any (·.1)=false:=by rfl):aX X (.Call (.Attribute o name apos) (e::es) [] cpos) (vB r to ts):=
 ⟨aH (vA pa slot hty hm.ok ho.ok ha.ok hbase hfew hline hs hplain) fun σ H Q ⟨σ3,S,Q3,E3,rσ,rS,h,xo,k⟩=>⟨σ3,S,_,E3,rσ,rS,h,xo,fun x S1 v H1 h1 rx z0 g1=>by
  split at h1
  ·have Hf:=rx
   cases rx with
   |tup hq rs=>exact⟨⟨_,_,rfl,hq⟩,bL (rσ.mono g1) z0 h1 (xo.mono g1) fun ps S2 vs H2 hl q rv Bn g2=>⟨_,ps,S2,Q3,Hf.mono g2,rv,Bn,q,k.mono (g1.trans g2)⟩⟩
  ·exact h1.elim⟩⟩
end
section
variable {X:Cx} {a b:Expr} {ta tb:aO} {p pos:Pos}
def m9(ta tb:aO):qg:=fun σ S R E=>ta σ S (fun v S1=>tb σ S1 (fun w S2=>match v,w with
 | .tup xs,.tup ys=>R ⟨bc xs ys,fun _=>True⟩ S2
 | .ref a,.ref b=>(match S2 a,S2 b with|some (.lst xs),some (.lst ys)=>R ⟨bc xs ys,fun S'=>S' a=some (.lst xs)/\S' b=some (.lst ys)⟩ S2|_,_=>False)
 | .ref a,.tup ys=>(match S2 a with|some (.lst xs)=>R ⟨bc xs ys,fun S'=>S' a=some (.lst xs)⟩ S2|_=>False)
 | .tup xs,.ref b=>(match S2 b with|some (.lst ys)=>R ⟨bc xs ys,fun S'=>S' b=some (.lst ys)⟩ S2|_=>False)
 |_,_=>False) E) E
def vC{elts:List Expr}{k0:Nat}{BO:Pos}(hs:starEach [a,b] X.env=[(false,eval a X.env),(false,eval b X.env)])(hs2:starEach [b] X.env=[(false,eval b X.env)])(hg:Gl X "zip")(hm:X.mg "zip" = none)(hv:bootBuiltins "zip" = some (.type "zip"))(ha:iD X [a,b] [ta,tb]) :
  sF X (.Tuple elts k0 BO) (.Call (.Name "zip" p) [a,b] [] pos) (m9 ta tb):=
 ⟨kN (u_ hg hm hv ha.ok hs hs2) fun σ H R ⟨σ3,S,R3,E3,rσ,rS,h,xo,k⟩=>⟨σ3,S,_,E3,rσ,rS,h,xo,fun v S1 v' H1 h1 rv z0 g1=>⟨σ3,S1,_,E3,rσ.mono g1,z0,h1,xo.mono g1,fun w S2 w' H2 h2 rw' Bn g2=>by
  have L:∀{a:Addr} {xs:List PV},S2 a=some (.lst xs)->∃vs,nV true X.K H2 a vs:=fun e=>let ⟨_,h,_⟩:=Bn _ _ e;⟨_,SqL.of h⟩
  split at h2
  ·cases rv with
   |tup hq rs=>
    cases rw' with
    |tup hq2 FR=>exact⟨false,false,_,_,rfl,⟨_,g2.t _ _ hq⟩,⟨_,hq2⟩,k _ S2 _ H2 h2 (iN (.tup (g2.t _ _ hq) (rs.mono g2)) (.tup hq2 FR)) Bn (g1.trans g2)⟩
  ·cases rv
   cases rw'
   split at h2
   ·rename_i ea eb
    exact⟨true,true,_,_,rfl,L ea,L eb,k _ S2 _ H2 h2 (iN (.lst fun _ q=>q.1) (.lst fun _ q=>q.2)) Bn (g1.trans g2)⟩
   ·exact h2.elim
  ·cases rv
   cases rw' with
   |tup hq2 FR=>
    split at h2
    ·rename_i ea
     exact⟨true,false,_,_,rfl,L ea,⟨_,hq2⟩,k _ S2 _ H2 h2 (iN (.lst fun _ q=>q) (.tup hq2 FR)) Bn (g1.trans g2)⟩
    ·exact h2.elim
  ·cases rv with
   |tup hq rs=>
    cases rw'
    split at h2
    ·rename_i eb
     exact⟨false,true,_,_,rfl,⟨_,g2.t _ _ hq⟩,L eb,k _ S2 _ H2 h2 (iN (.tup (g2.t _ _ hq) (rs.mono g2)) (.lst fun _ q=>q)) Bn (g1.trans g2)⟩
    ·exact h2.elim
  ·exact h2.elim⟩⟩⟩
end
end L3
namespace C
open PySem L2 L3
def cp(BD s0:aA):bC:=(af (aq 3 (bm [(aB [(v3 0),(v3 2)])]))
  (af (cV (cI (ad BD [(v3 0)])) (.tp (.cons (.n 4) (.cons (.n 5) .nil))) (af (aq 6 (bD (ah (bg false) (ah ag (v3 0) (c3 (.int 0))) (c3 (.str "take"))) (bD (ah (bg false) (v3 4) (c3 (.int 0))) (ah (iM true) (ah ag (v3 0) (c3 (.int 1))) (v3 1)))))
  (aY (d9 "list" bT (v3 3) [(ad s0 [(v3 5),(v3 1),(bD (v3 2) (j1 (v3 6)))])]))))
  (ay (v3 3))))
def eF(AH Cc:aA):bC:=(af (cV (cI (ah ag (v3 0) (c3 (.int 1)))) (.tp (.cons (.n 2) (.cons (.n 3) .nil))) (cV (cI (gT AH [(ah ag (v3 3) (c3 (.int 1))),(v3 1)])) (.tp (.cons (.n 4) (.cons (.n 5) .nil))) (af (aq 6 (ah ag (v3 5) (c3 (.int 0))))
  (bq (jF (aU (ah ag (v3 5) (c3 (.int 1)))) (jF (aU (ah (bg false) (ah ag (v3 6) (c3 (.int 0))) (c3 (.str "put")))) (aU (ah (iM true) (ah ag (v3 6) (c3 (.int 1))) (v3 1))))) (ay (aB [(vB iQ (ah ag (v3 0) (c3 (.int 0))) [(ah ag (v3 6) (c3 (.int 1)))]),(v3 2),(ad Cc [(ah ag (v3 3) (c3 (.int 1))),(v3 4),(aB [])])])) aN))))
  (ay (c3 .non)))
def gU(BS:aA):bC:=(af (aq 1 (bm []))
  (af (aq 2 (bm []))
  (af (aq 3 (ad BS [(v3 0),(v3 2)]))
  (af (gR (aU (ah (tU true) (v3 3) (c3 .non))) (af (aY (d9 "list" aZ (v3 1) [(v3 3)]))
  (af (aY (d9 "list" aZ (v3 2) [(ah ag (ah ag (v3 0) (c3 (.int 0))) (ah ag (v3 3) (c3 (.int 0))))]))
  (aq 3 (ad BS [(v3 0),(v3 2)])))))
  (ay (v3 1))))))
def fI(C1:aA):bC:=(ay (aR (a_ (ad C1 [(v3 0)])) (.n 0) bQ (ah ag (ah ag (v3 1) (c3 (.int 0))) (ah ag (v3 0) (c3 (.int 0)))) 1 [0]))
def bw(s0:aA):bC:=(af (bq (aU (am i9 [(v3 1),(aB [(c3 (.ty "list")),(c3 (.ty "tuple"))])])) (af (bq (lm (aU (ah (bg true) (am i9 [(v3 0),(c3 (.ty "list"))]) (am i9 [(v3 1),(c3 (.ty "list"))]))) (aU (ah (bg true) (am i9 [(v3 0),(c3 (.ty "tuple"))]) (am i9 [(v3 1),(c3 (.ty "tuple"))])))) (ay (c3 (.bl false))) aN)
  (ay (bD (ah (bg false) (am bP [(v3 0)]) (am bP [(v3 1)])) (am mj [(aR (m9 (v3 0) (v3 1)) (.tp (.cons (.n 0) (.cons (.n 1) .nil))) bQ (ad s0 [(v3 0),(v3 1)]) 2 [])])))) aN)
  (ay (bD (ah (bg false) (am i9 [(v3 0),(c3 (.ty "bool"))]) (am i9 [(v3 1),(c3 (.ty "bool"))])) (ah (bg false) (v3 0) (v3 1)))))
def dL(Au zR Aa:aA):bC:=(af (aq 1 (ad Au [(v3 0),(c3 (.int 8))]))
  (af (aq 2 (bf (v3 1) kK (jH (ah aP (c3 (.int 1)) (ad zR [(v3 0),(c3 (.int 4))])))))
  (af (aq 3 (am aQ [(v3 2)]))
  (af (aq 5 (aR (a_ (v3 3)) (.n 0) bQ (d9 "list" lq (v3 2) [(ad zR [(v3 1),(am bP [(v3 2)])])]) 1 [0,2]))
  (af (aq 6 (bm []))
  (af (cV (cI (v3 5)) (.tp (.cons (.n 7) (.cons (.n 4) .nil))) (af (aq 8 (aB [(c3 (.str "put")),(v3 4),(ah aP (c3 (.int 1)) (ad zR [(v3 0),(c3 (.int 9))]))]))
  (af (bq (lm (aU (ah ms (v3 7) (c3 (.int 0)))) (aU (ah (bg false) (ad zR [(v3 0),(c3 (.int 4))]) (c3 (.int 0))))) (aq 8 (aB [(c3 (.str "take")),(ah ag (v3 5) (ah b3 (v3 7) (c3 (.int 1)))),(ah aP (c3 (.int 1)) (ad zR [(v3 0),(c3 (.int 9))])),(v3 8),(ad Aa [(v3 0),(bm [])])])) aN)
  (af (aq 9 (bm [(aB [(c3 (.str "then")),(ad Aa [(v3 0),(bm [])]),(v3 8)]),(aB [(c3 (.str "often")),(v3 8)]),(aB [(c3 (.str "either")),(ad Aa [(v3 0),(bm [])]),(v3 8)])]))
  (aY (d9 "list" iP (v3 6) [(ad zR [(v3 0),(ah aP (am bP [(v3 6)]) (c3 (.int 1)))]),(ah ag (bm [(v3 8),(ah ag (v3 9) (c3 (.int 0))),(ah ag (v3 9) (c3 (.int 1))),(ah ag (v3 9) (c3 (.int 2)))]) (ad zR [(v3 0),(c3 (.int 4))]))]))))))
  (ay (aB [(v3 3),(am aQ [(aR (cI (v3 6)) (.tp (.cons (.n 0) (.cons (.n 1) .nil))) bQ (aB [(ah ag (v3 2) (ah aP (c3 (.int 4)) (v3 0))),(v3 1)]) 2 [1])])]))))))))
def fJ(B4:aA):bC:=(af (qe (v3 0) (.tp (.cons (.n 1) (.cons (.n 2) .nil))))
  (af (aq 3 (bm [(v3 0)]))
  (af (bq (aU (ah ms (am bP [(v3 2)]) (c3 (.int 1)))) (af (aq 4 (aR (a_ (v3 2)) (.tp (.cons (.n 0) (.cons (.n 1) .nil))) bQ (v3 0) 2 []))
  (af (aq 5 (aR (a_ (v3 2)) (.tp (.cons (.n 0) (.cons (.n 1) .nil))) bQ (v3 1) 2 []))
  (aY (d9 "list" bT (v3 3) [(bm [(aB [(v3 1),(bf (v3 2) kK (jH (fz bI (c3 (.int 1)))))]),(aB [(v3 1),(qr (v3 4) (ah aP (bf (v3 5) (jH (c3 (.int 1))) kK) (bf (v3 5) kK (jH (c3 (.int 1))))))])])])))) aN)
  (af (bq (aU (ah ms (am bP [(v3 1)]) (c3 (.int 1)))) (af (aq 4 (jg [((ah ag (v3 1) (c3 (.int 0))),(ah ag (v3 1) (fz bI (c3 (.int 1))))),((ah ag (v3 1) (fz bI (c3 (.int 1)))),(ah ag (v3 1) (c3 (.int 0))))]))
  (aY (d9 "list" aZ (v3 3) [(aB [(v3 1),(am aQ [(aR (a_ (v3 2)) (.tp (.cons (.n 0) (.cons (.n 1) .nil))) bQ (aB [(v3 0),(ad B4 [(v3 1),(v3 2)])]) 2 [4])])])]))) aN)
  (ay (v3 3))))))
def cL(AH C2:aA):bC:=(af (aq 2 (aR (a_ (gT AH [(v3 0),(v3 1)])) (.n 0) (aU (ad C2 [(ah ag (v3 0) (c3 (.int 0)))])) (v3 0) 1 []))
  (af (aq 3 (aR (cI (v3 2)) (.tp (.cons (.n 0) (.cons (.n 1) .nil))) (aU (ah ag (v3 1) (c3 (.int 1)))) (v3 0) 2 []))
  (ay (am aQ [(ah aP (v3 3) (bm [(am bP [(v3 2)])]))]))))
def cM(CJ B5:aA):bC:=(af (aq 1 (ad CJ [(v3 0)]))
  (ay (am aQ [(aR (a_ (ah ag (v3 0) (c3 (.int 1)))) (.n 0) bQ (ad B5 [(ah ag (v3 0) (c3 (.int 1))),(v3 1)]) 1 [1])])))
def eG(s0:aA):bC:=(af (bq (jF (aU (ah (bg true) (ah ag (v3 0) (c3 (.int 0))) (c3 (.str "rest")))) (aU (ah (bg true) (ah ag (v3 0) (c3 (.int 0))) (c3 (.str "then"))))) (af (bq (aU (v3 3)) (aY (d9 "list" aZ (v3 4) [(v3 1)])) aN)
  (aq 1 (ah aP (v3 1) (c3 (.int 1))))) aN)
  (af (bq (aU (ah (bg false) (ah ag (v3 0) (c3 (.int 0))) (c3 (.str "often")))) (ay (ad s0 [(ah ag (v3 0) (c3 (.int 1))),(v3 1),(v3 2),(v3 3),(v3 4)])) aN)
  (af (bq (aU (ah (iM false) (ah ag (v3 0) (c3 (.int 0))) (aB [(c3 (.str "then")),(c3 (.str "either")),(c3 (.str "take"))]))) (af (aq 1 (ad s0 [(ah ag (v3 0) (fz bI (c3 (.int 2)))),(v3 1),(v3 2),(bD (v3 3) (jG (ah (bg true) (ah ag (v3 0) (c3 (.int 0))) (c3 (.str "take"))) (ah (iM false) (ah ag (v3 0) (c3 (.int 1))) (v3 2)))),(v3 4)]))
  (ay (ad s0 [(ah ag (v3 0) (fz bI (c3 (.int 1)))),(v3 1),(v3 2),(v3 3),(v3 4)]))) aN)
  (ay (v3 1)))))
end C
namespace L3
open PySem L2 Xc
end L3
namespace L3
open PySem L2
end L3
namespace L2
open PySem PySem.Spec PyProof.Rows Xc
end L2
namespace L3
open PySem L2 Xc
section
variable {P:Program} {w:World} {K:Vo} {mg:Vr} {base:Heap}
structure bt (K:Vo) (mg:Vr) (x:Str) (st:Stmt) (ps:Vs):Prop where
 ex:∃f fd,xZ K mg x st ps f fd
structure Bm (P:Program) (w:World) (K:Vo) (mg:Vr) (base:Heap) (k:Nat) (x:Str) (n:Nat) (sp:aA):Prop where
 ex:∃f fd ps,ps.length=n/\Dw P w K mg base k f fd ps sp/\mg x=some (.ref f)/\PySem.W.keepIn K (.ref f)=true/\Binds K fd ps []
def fK{x:Str}{st:Stmt}{ps:Vs}{k n:Nat}{t:bC}{sp:aA}(N:Vs)(O:bt K mg x st ps)
  (hbody:∀(f:Addr) (cdv:Value) (A:Around) (outer:List Env) (s:Shared) (H:Hp) (E:XK),Room k (A.deeper (PyProof.Rows.envOfC x (aw st) s.heap.objs.size f cdv))->N.Nodup->gJ (xj P w K mg base N x st f cdv A outer s H E) (aV st) t) (e:sp=Ab N.length t)
  (hn:ps.length=n:=by rfl) (S:cv N ps (aw st):=by exact⟨rfl,rfl,rfl,by decide +kernel,rfl,by decide +kernel,by decide +kernel⟩):Bm P w K mg base (k+1) x n sp:=by
 subst e
 obtain⟨f,fd,o⟩:=O.ex
 exact⟨f,fd,ps,hn,zp o.F S fun cdv A outer s H E hr=>hbody f cdv A outer s H E hr S.nd,o.m,o.k,o.b⟩
def zH{x:Str}{st:Stmt}{ps:Vs}{k:Nat}{t:bC}{sp:aA}{f:Addr}{fd:FuncData}(N:Vs)(o:xZ K mg x st ps f fd)
  (hbody:∀(f:Addr) (cdv:Value) (A:Around) (outer:List Env) (s:Shared) (H:Hp) (E:XK),Room k (A.deeper (PyProof.Rows.envOfC x (aw st) s.heap.objs.size f cdv))->N.Nodup->gJ (xj P w K mg base N x st f cdv A outer s H E) (aV st) t) (e:sp=Ab N.length t)
  (S:cv N ps (aw st):=by exact⟨rfl,rfl,rfl,by decide +kernel,rfl,by decide +kernel,by decide +kernel⟩):Dw P w K mg base (k+1) f fd ps sp:=by
 subst e
 exact zp o.F S fun cdv A outer s H E hr=>hbody f cdv A outer s H E hr S.nd
def mz:aA:=fun _ _ _ _=>False
theorem Bm.zero{x:Str}{st:Stmt}{ps:Vs}{k n:Nat}(O:bt K mg x st ps)(hn:ps.length=n:=by rfl):Bm P w K mg base k x n mz:=by
 obtain⟨f,fd,o⟩:=O.ex
 exact⟨f,fd,ps,hn,.zero rfl,o.m,o.k,o.b⟩
theorem ji{b n:Nat}{x:Str}{st:Stmt}{ps:Vs}{r:Nat->aA}(O:bt K mg x st ps)(h:∀j,Bm P w K mg base (b+j) x n (r j)->Bm P w K mg base (b+j+1) x n (r (j+1)))(h0:r 0=mz)(hn:ps.length=n:=by rfl):∀j,Bm P w K mg base (b+j) x n (r j)
 |0=>by rw[h0];exact .zero O hn
 |j+1=>h j (ji O h h0 hn j)
end
section
variable {X:Cx} {a b e o:Expr} {es:List Expr} {ta tb te to:aO} {ts:List aO} {x c m f:Str} {p pos apos cpos:Pos} {j k n:Nat} {sp:aA}
def c4(O:Bm X.prog X.w X.K X.mg X.base k x n sp)(hr:Room j X.A)(ha:iD X (e::es) ts)(hj:k<=j:=by omega)(hl:ts.length=n:=by rfl)(hg:Gl X x:=by rfl)(he:starEach (e::es) X.env=(false,eval e X.env)::starEach es X.env:=by rfl)(hdb:(x == ("__debug__":Str))=false:=by decide)(hpl:(backTo pos (starEach es X.env)).any (·.1)=false:=by rfl) :
  aX X (.Call (.Name x p) (e::es) [] pos) (ad sp ts):=by
 obtain⟨f,fd,ps,hn,F,h1,h2,h3⟩:=O.ex
 exact qj F (hr.mono hj) hg h1 h2 h3 he ha (hl.trans hn.symm) hdb hpl
def cB{id:String}{r:n6}(hc:f_ X (.builtin id) r)(hm:X.mg x=none)(ha:iD X (e::es) ts)(hg:Gl X x:=by rfl)(hv:bootBuiltins x=some (.builtin id):=by decide +kernel)(he:starEach (e::es) X.env=(false,eval e X.env)::starEach es X.env:=by rfl)
  (hnn:x ≠ "__name__":=by decide) (hdb:(x == ("__debug__":Str))=false:=by decide) (hpl:(backTo pos (starEach es X.env)).any (·.1)=false:=by rfl):aX X (.Call (.Name x p) (e::es) [] pos) (am r ts):=sy hc hg hm hv he ha hnn hdb hpl
def cT{id:String}{r:n6}(hc:f_ X (.type id) r)(hm:X.mg x=none)(ha:iD X (e::es) ts)(hg:Gl X x:=by rfl)(hv:bootBuiltins x=some (.type id):=by decide +kernel)(he:starEach (e::es) X.env=(false,eval e X.env)::starEach es X.env:=by rfl)
  (hnn:x ≠ "__name__":=by decide) (hdb:(x == ("__debug__":Str))=false:=by decide) (hpl:(backTo pos (starEach es X.env)).any (·.1)=false:=by rfl):aX X (.Call (.Name x p) (e::es) [] pos) (am r ts):=sA hc hg hm hv he ha hnn hdb hpl
def lc{r:List Expr}(ha:aX X a ta)(hr:iD X r ts)(hs:starEach (a::r) X.env=(false,eval a X.env)::starEach r X.env:=by rfl):iD X (a::r) (ta::ts):=pR hs ha hr
def l1(ha:aX X a ta)(hs:starEach [a] X.env=(false,eval a X.env)::starEach [] X.env:=by rfl):iD X [a] [ta]:=pR hs ha cW
def bn{i:Int}{q:Nat}{p2:Pos}(hr:Room j X.A)(ha:aX X a ta)(hs:iJ (.Constant (.int i) q p2):=by exact fun _ _=>rfl):aX X (.Subscript a (.Constant (.int i) q p2) pos) (ah ag ta (c3 (.int i))):=w_ (zo (q9 hr)) ha ac hs
def d5(hr:Room j X.A)(ha:aX X a ta)(hb:aX X b tb)(hs:iJ b:=by exact fun _ _=>rfl):aX X (.Subscript a b pos) (ah ag ta tb):=w_ (zo (q9 hr)) ha hb hs
def gC(hr:Room j X.A)(ha:aX X a ta)(hb:aX X b tb):l_ X (.Compare a [.Eq] [b] pos) (aU (ah (bg false) ta tb)):=bi (i4 (gg hr)) ha hb (aW _)
def v1(hr:Room j X.A)(ha:aX X a ta)(hb:aX X b tb):l_ X (.Compare a [.NotEq] [b] pos) (aU (ah (bg true) ta tb)):=bi (tT (gg hr)) ha hb (aW _)
def s4(i:Nat){pos':Pos}(nd:X.N.Nodup)(he:aX X e te)(hi:X.N[i]?=some x:=by rfl)(hx:tH X.env.scope x:=by first|exact Or.inl rfl|exact Or.inr rfl)(hs:swapsWith e (some (.Name x pos')) pos.line X.env=pure false:=by rfl)
  (hf:X.fn x=true\/X.env.scope.names.lookup x=some .local:=by first|exact .inl rfl|exact .inr rfl|assumption):ma X (.Assign [.Name x pos'] e pos) (aq i te):=xc nd hi hx he hs hf
def gn(i:Nat)(nd:X.N.Nodup)(hi:X.N[i]?=some x:=by rfl)(hx:tH X.env.scope x:=by first|exact Or.inl rfl|exact Or.inr rfl)(hf:X.fn x=true\/X.env.scope.names.lookup x=some .local:=by first|exact .inl rfl|exact .inr rfl|assumption):qZ X (.Name x pos) (.n i):=zE i nd hi hx hf
def zI{px:Pos}{kvs:List (ba×Int)}{g:Expr}{tg:aO}(hr:Room j X.A)(hD:∃a,X.mg x=some (.ref a)/\KD X.prog X.w X.K a (kvs.map fun kv=>(kv.1,V.int kv.2)))(he:aX X e te)(hf:aX X g tg)(hg:Gl X x:=by rfl)(m:M2 X (.Name x px) "get" apos e g cpos:=by exact⟨rfl,rfl,rfl,rfl⟩)
  (hd:(x == ("__debug__":Str))=false:=by decide):aX X (.Call (.Attribute (.Name x px) "get" apos) [e,g] [] cpos) (m6 kvs te tg):=let ⟨_,h1,h2⟩:=hD;vv (q9 hr) hg h1 h2 he hf m hd
end
structure tY (T:String) (name:Str) (id:String):Prop where
 pa:PlainAttrs T
 slot:Slot T name id
 ty:typeOf (.builtin id)=pure (.type "method_descriptor")
section
variable {X:Cx} {e o:Expr} {es:List Expr} {to:aO} {ts:List aO} {name:Str} {T id:String} {p pos apos cpos:Pos} {r:mn}
def bM:tY "list" "append" "list.append":=⟨JY,PySem.F.slot_list_append,PySem.F.type_list_append⟩
def gV:tY "list" "extend" "list.extend":=⟨JY,PySem.F.slot_list_extend,PySem.F.type_list_extend⟩
def oo:tY "list" "insert" "list.insert":=⟨JY,PySem.F.slot_list_insert,PySem.F.type_list_insert⟩
def qu:tY "list" "pop" "list.pop":=⟨JY,PySem.F.slot_list_pop,PySem.F.type_list_pop⟩
def m_:tY "str" "join" "str.join":=⟨PySem.F.plainAttrs_str,PySem.F.slot_str_join,PySem.F.type_str_join⟩
def qv:tY "str" "index" "str.index":=⟨PySem.F.plainAttrs_str,PySem.F.slot_str_index,PySem.F.type_str_index⟩
def lQ(k:tY T name id)(hm:oH X id r)(ho:aX X o to)(ha:iD X (e::es) ts)(hs:starEach (e::es) X.env=(false,eval e X.env)::starEach es X.env:=by rfl)
  (hbase:attributeBase o name X.env (eval o X.env)=eval o X.env:=by rfl)
  (hfew:((backTo cpos (starEach (e::es) X.env)).all (fun x=>!x.1)&&(backToKw cpos (keywordEach [] X.env)).all (fun x=>x.1.isSome)
   && decide ((e::es).length+([]:List Keyword).length+(if ([]:List Keyword).isEmpty then 0 else 1) < 30))=true:=by rfl)
  (hline:(apos.endLine == cpos.line)=true:=by rfl) (hplain:(backTo cpos (starEach es X.env)).any (·.1)=false:=by rfl):aX X (.Call (.Attribute o name apos) (e::es) [] cpos) (d9 T r to ts):=yO k.pa k.slot k.ty hm hs ho ha hbase hfew hline hplain
def yX(k:tY T name id)(hm:oH X id r)(ho:aX X o to)
  (hbase:attributeBase o name X.env (eval o X.env)=eval o X.env:=by rfl) (hline:(apos.endLine == cpos.line)=true:=by rfl):aX X (.Call (.Attribute o name apos) [] [] cpos) (d9 T r to []):=xa k.pa k.slot k.ty hm ho hbase hline
end
section
variable {X:Cx} {tg iter elt:Expr} {ifs:List Expr} {scope:Scope} {pos:Pos} {ti:qg} {g:Tg} {tc:il} {te:aO}
def qw(fs:Vs)(own:Nat)(fr:List Nat)(N:Vs)(hi:sF X tg iter ti)(hg:∀B,qZ (X.Bv N scope fs B) tg g)(hf:∀B,vZ (X.Bv N scope fs B) ifs tc)(he:∀B,aX (X.Bv N scope fs B) elt te)
  (Dv:g.under own=true:=by rfl) (hc:X.calm=true:=by rfl) (hclos:closureFor scope X.env=pure (b4 X.env fs):=by rfl) (hcell:∀y∈scope.names,y.2 ≠ .cell:=by decide +kernel) (hkind:scope.kind = .function:=by rfl)
  (hnames:∀x∈scope.names,x.2 = .local->scope.names.lookup x.1=some .local:=by decide +kernel) (hcl:bR X.env fs:=by repeat' first|exact trivial|exact⟨_,rfl⟩|constructor) (hhas:kD (relabel scope X.env).names (b4 X.env fs)=true:=by rfl)
  (hlen:N.length=own+fr.length:=by rfl) (hN:(N.drop own).map some=fr.map (fun j=>X.N[j]?):=by rfl) (hF:AG X.env scope (b4 X.env fs) (N.drop own):=by repeat' first|exact trivial|exact .inl rfl|exact .inr rfl|exact rfl|apply And.intro)
  (hs:∀x,foldedSetIterable iter X.env x=pure x:=by intro _;rfl):aX X (.ListComp elt [⟨tg,iter,ifs,0⟩] scope pos) (aR ti g tc te own fr):=vq fs own fr N Dv hc hclos hcell hkind hnames hcl hhas hlen hN hF hi hg hf he hs
def v5(fs:Vs)(own:Nat)(fr:List Nat)(N:Vs)(i:Nat){y:Str}{py spos:Pos}(hX:X.N.Nodup)(hi:sF X tg iter ti)(hg:∀B,qZ (X.Bv N scope fs B) tg g)(hf:∀B,vZ (X.Bv N scope fs B) ifs tc)(he:∀B,aX (X.Bv N scope fs B) elt te)
  (hix:X.N[i]?=some y:=by rfl) (hy:X.env.scope.names.lookup y=some .local:=by rfl) (hsw:swapsWith (.ListComp elt [⟨tg,iter,ifs,0⟩] scope pos) (some (.Name y py)) spos.line X.env=pure true:=by rfl)
  (Dv:g.under own=true:=by rfl) (hc:X.calm=true:=by rfl) (hclos:closureFor scope X.env=pure (b4 X.env fs):=by rfl) (hcell:∀y∈scope.names,y.2 ≠ .cell:=by decide +kernel) (hkind:scope.kind = .function:=by rfl)
  (hnames:∀x∈scope.names,x.2 = .local->scope.names.lookup x.1=some .local:=by decide +kernel) (hcl:bR X.env fs:=by repeat' first|exact trivial|exact⟨_,rfl⟩|constructor) (hhas:kD (relabel scope X.env).names (b4 X.env fs)=true:=by rfl)
  (hlen:N.length=own+fr.length:=by rfl) (hN:(N.drop own).map some=fr.map (fun j=>X.N[j]?):=by rfl) (hF:AG X.env scope (b4 X.env fs) (N.drop own):=by repeat' first|exact trivial|exact .inl rfl|exact .inr rfl|exact rfl|apply And.intro)
  (hs:∀x,foldedSetIterable iter X.env x=pure x:=by intro _;rfl):ma X (.Assign [.Name y py] (.ListComp elt [⟨tg,iter,ifs,0⟩] scope pos) spos) (aq i (aR ti g tc te own fr)):=vt fs own fr N hX hix hy hsw Dv hc hclos hcell hkind hnames hcl hhas hlen hN hF hi hg hf he hs
end
section
variable {X:Cx} {e:Expr} {es:List Expr} {ts:List aO} {x:Str} {p pos cpos:Pos} {ks:Vs} {j:Nat}
def tZ{n:String}(hm:X.mg x=none)(hg:Gl X x:=by rfl)(hv:bootBuiltins x=some (.type n):=by decide +kernel)(hn:x ≠ "__name__":=by decide)(hd:(x == ("__debug__":Str))=false:=by decide):aX X (.Name x pos) (c3 (.ty n)):=yM hg hm hv hn hd
end
section
variable {P:Program} {w:World} {K:Vo} {mg:Vr} {base:Heap}
structure lz (K:Vo) (mg:Vr) (x:Str) (st:Stmt) (ps:Vs):Prop where
 ex:∃T f fd,yV K mg x st ps T f fd
structure DF (P:Program) (w:World) (K:Vo) (mg:Vr) (base:Heap) (k:Nat) (x:Str) (n:Nat) (sp:aA):Prop where
 ex:∃f fd ps,ps.length=n/\Dw P w K mg base k f fd ps sp/\mg x=some (.ref f)/\PySem.W.keepIn K (.ref f)=true/\Binds K fd ps []/\Binds K fd ps [.bool true]
def zJ{x:Str}{st:Stmt}{ps:Vs}{k n:Nat}{t:bC}{sp:aA}(N:Vs)(O:lz K mg x st ps)
  (hbody:∀(f:Addr) (cdv:Value) (A:Around) (outer:List Env) (s:Shared) (H:Hp) (E:XK),Room k (A.deeper (PyProof.Rows.envOfC x (aw st) s.heap.objs.size f cdv))->N.Nodup->gJ (xj P w K mg base N x st f cdv A outer s H E) (aV st) t) (e:sp=Ab N.length t)
  (hn:ps.length=n:=by rfl) (S:cv N ps (aw st):=by exact⟨rfl,rfl,rfl,by decide +kernel,rfl,by decide +kernel,by decide +kernel⟩):DF P w K mg base (k+1) x n sp:=by
 subst e
 obtain⟨T,f,fd,o⟩:=O.ex
 exact⟨f,fd,ps,hn,yU o.F S fun cdv A outer s H E hr=>hbody f cdv A outer s H E hr S.nd,o.m,o.k,o.b,o.d⟩
theorem DF.zero{x:Str}{st:Stmt}{ps:Vs}{k n:Nat}(O:lz K mg x st ps)(hn:ps.length=n:=by rfl):DF P w K mg base k x n mz:=by
 obtain⟨T,f,fd,o⟩:=O.ex
 exact⟨f,fd,ps,hn,.zero rfl,o.m,o.k,o.b,o.d⟩
theorem xx{b n:Nat}{x:Str}{st:Stmt}{ps:Vs}{r:Nat->aA}(O:lz K mg x st ps)(h:∀j,DF P w K mg base (b+j) x n (r j)->DF P w K mg base (b+j+1) x n (r (j+1)))(h0:r 0=mz)(hn:ps.length=n:=by rfl):∀j,DF P w K mg base (b+j) x n (r j)
 |0=>by rw[h0];exact .zero O hn
 |j+1=>h j (xx O h h0 hn j)
end
section
variable {X:Cx} {e:Expr} {es:List Expr} {ts:List aO} {x:Str} {p pos:Pos} {j k n:Nat} {sp:aA}
def cD(O:DF X.prog X.w X.K X.mg X.base k x n sp)(hr:Room j X.A)(ha:iD X (e::es) ts)(hj:k<=j:=by omega)(hl:ts.length+1=n:=by rfl)(hg:Gl X x:=by rfl)(he:starEach (e::es) X.env=(false,eval e X.env)::starEach es X.env:=by rfl)(hdb:(x == ("__debug__":Str))=false:=by decide)(hpl:(backTo pos (starEach es X.env)).any (·.1)=false:=by rfl) :
  aX X (.Call (.Name x p) (e::es) [] pos) (gT sp ts):=by
 obtain⟨f,fd,ps,hn,F,h1,h2,h3,h4⟩:=O.ex
 exact sM F (hr.mono hj) hg h1 h2 h4 he ha (hl.trans hn.symm) hdb hpl
def zK(O:DF X.prog X.w X.K X.mg X.base k x n sp)(hr:Room j X.A)(ha:iD X (e::es) ts)(hj:k<=j:=by omega)(hl:ts.length=n:=by rfl)(hg:Gl X x:=by rfl)(he:starEach (e::es) X.env=(false,eval e X.env)::starEach es X.env:=by rfl)(hdb:(x == ("__debug__":Str))=false:=by decide)(hpl:(backTo pos (starEach es X.env)).any (·.1)=false:=by rfl) :
  aX X (.Call (.Name x p) (e::es) [] pos) (ad sp ts):=by
 obtain⟨f,fd,ps,hn,F,h1,h2,h3,h4⟩:=O.ex
 exact qj F (hr.mono hj) hg h1 h2 h3 he ha (hl.trans hn.symm) hdb hpl
end
end L3
namespace L2
open PySem PySem.Spec PyProof.Rows
end L2
namespace L3
open PySem L2
end L3
namespace CY
open PySem L2 L3
end CY
namespace L3
open PySem L2
theorem lA:∀{a b:List Char},a.map Char.toNat=b.map Char.toNat->a=b
 |[],[],_=>rfl
 |[],_::_,h=>by simp at h
 |_::_,[],h=>by simp at h
 |x::a,y::b,h=>by
  simp only[Io,List.cons.injEq]at h
  rw[lA h.2,Char.toNat_inj.mp h.1]
def aF{a b:String}:(Str.ofString a=Str.ofString b)↔a=b:=by
 refine⟨fun h=>?_,fun h=>by rw[h]⟩
 rw[Str.ofString_eq_toList,Str.ofString_eq_toList]at h
 have h':a.toList.map Char.toNat=b.toList.map Char.toNat:=by
  have:=I9 (fun s:Str=>s.cps.toList) h
  simpa using this
 exact String.toList_inj.mp (lA h')
def sS{a b:String}:((Sum.inr (Str.ofString a):ba)=Sum.inr (Str.ofString b))↔a=b:=by
 rw[Sum.inr.injEq,aF]
def vD{i j:Int}(h1:-(2 ^ 64) < i)(h2:i < 2 ^ 64):IntMulOk i j:=(show DA i j from .inl ⟨h1,h2⟩).ok
def sP{i j:Int}(h1:-(2 ^ 64) < j)(h2:j < 2 ^ 64):IntMulOk i j:=(show DA i j from .inr ⟨h1,h2⟩).ok
def gi{i j:Int}(h:0<=j):i.fmod j=i % j:=Int.fmod_eq_emod_of_nonneg i h
def xy{i j:Int}(h:0<=j):i.fdiv j=i / j:=Int.fdiv_eq_ediv_of_nonneg i h
def xz{i j:Int}(h:0 < j)(h2:j < 2 ^ 64):lp i j:=⟨by omega,Lx (show j.natAbs < 2 ^ 64 by omega) (Nat.pow_lt_pow_right (by decide) (by decide))⟩
def AO(d l:Addr)(S S':ar):Prop:=∀a o,S a=some o->a≠d->a≠l->S' a=some o
def AO.refl{d l:Addr}{S:ar}:AO d l S S:=fun _ _ h _ _=>h
def AO.trans{d l:Addr}{S S1 S2:ar}(a:AO d l S S1)(b:AO d l S1 S2):AO d l S S2:=fun x o h h1 h2=>b x o (a x o h h1 h2) h1 h2
def AO.upd{d l:Addr}{S:ar}{o:SO}:AO d l S (zS S d o):=fun x u h h1 h2=>by rw[aj h1];exact h
def AO.Hg{d l:Addr}{S:ar}{o:SO}:AO d l S (zS S l o):=fun x u h h1 h2=>by rw[aj h2];exact h
def AO.new{d l p:Addr}{S:ar}{o:SO}(h:S p=none):AO d l S (zS S p o):=fun x u hx h1 h2=>by rw[aj (fun e=>by rw[e,h]at hx;cases hx)];exact hx
end L3
local macro_rules | `(tactic| walk_at "x")=>`(tactic| ((try dsimp only [L3.af,L3.aq,L3.ay,L3.aY,L3.bq,L3.aN,L3.ah,L3.v3,L3.c3,L3.lk,L3.ap,L3.am,L3.ad,L3.d9,L3.aU,L3.jF,L3.lm,L3.pU,L3.bD,L3.jG,L3.j1,L3.n5,L3.kM,L3.n_,L3.je,L3.aB,L3.bm,L3.fz,L3.bI,L3.ag,L3.gL,L3.bf,L3.kK,L3.jH,L3.kL,L3.dF,L3.fq,L3.b3,L3.fi,L3.iq,L3.qp,L3.oI,L3.ms,L3.xk,L3.bg,L3.tU,L3.aP,L3.iF,L3.bP,L3.i6,L3.aQ,L3.iE,List.set_cons_zero,List.set_cons_succ,List.set_nil,L3.mo,L3.gP,L3.lq,L3.aR,L3.a_,L3.cj,L3.cV,L3.dG,L3.Tg.put,L3.Tg.zV,L3.qe,L3.jg,L3.fD,L3.lv,L3.jI,L3.cI,L3.aZ,L3.bT,List.reduceReplicate,List.map_cons,List.map_nil,List.cons_append,List.nil_append]); (try simp only [L3.af,L3.aq,L3.ay,L3.aY,L3.bq,L3.aN,L3.ah,L3.v3,L3.c3,L3.lk,L3.ap,L3.am,L3.ad,L3.d9,L3.aU,L3.jF,L3.lm,L3.pU,L3.bD,L3.jG,L3.j1,L3.n5,L3.kM,L3.n_,L3.je,L3.aB,L3.bm,L3.fz,L3.bI,L3.ag,L3.gL,L3.bf,L3.kK,L3.jH,L3.kL,L3.dF,L3.fq,L3.b3,L3.fi,L3.iq,L3.qp,L3.oI,L3.ms,L3.xk,L3.bg,L3.tU,L3.aP,L3.iF,L3.bP,L3.i6,L3.aQ,L3.iE,List.set_cons_zero,List.set_cons_succ,List.set_nil,L3.mo,L3.gP,L3.lq,L3.aR,L3.a_,L3.cj,L3.cV,L3.dG,L3.Tg.put,L3.Tg.zV,L3.qe,L3.jg,L3.fD,L3.lv,L3.jI,L3.cI,L3.aZ,L3.bT,List.reduceReplicate,Io,Jb,List.cons_append,List.nil_append])))
namespace C
open PySem L2 L3
noncomputable def bz(seed number:Int)(l:Addr):List (ba×PV):=[(Sum.inr "seed",.int seed),(Sum.inr "number",.int number),(Sum.inr "left",.ref l)]
structure BQ (S:ar) (d l:Addr) (seed number:Int) (left:Vu):Prop where
 d:S d=some (.dct (bz seed number l))
 l:S l=some (.lst (left.map PV.int))
 s0:0<=seed
 s1:seed < 2147483647
 nm:0<=number
 lf:∀x∈left,0<=x
 ln:left.length<=100
def z9(S:ar)(d l:Addr):Prop:=∃seed number left,BQ S d l seed number left
def BQ.ne{S:ar}{d l:Addr}{seed number:Int}{left:Vu}(D:BQ S d l seed number left):d≠l:=fun e=>by
 have h:=D.d
 rw[e,D.l]at h
 cases h
def z9.new{S:ar}{d l p:Addr}{o:SO}(D:z9 S d l)(h:S p=none):z9 (zS S p o) d l:=by
 obtain⟨s,n,f,D⟩:=D
 refine⟨s,n,f,?_,?_,D.s0,D.s1,D.nm,D.lf,D.ln⟩
 ·rw[aj (fun e=>by have:=D.d;rw[e,h]at this;cases this)];exact D.d
 ·rw[aj (fun e=>by have:=D.l;rw[e,h]at this;cases this)];exact D.l
def z9.upd{S:ar}{d l p:Addr}{o:SO}(D:z9 S d l)(h1:p≠d)(h2:p≠l):z9 (zS S p o) d l:=by
 obtain⟨s,n,f,D⟩:=D
 exact⟨s,n,f,by rw[aj h1.symm];exact D.d,by rw[aj h2.symm];exact D.l,D.s0,D.s1,D.nm,D.lf,D.ln⟩
def z9.free{S:ar}{d l p:Addr}(D:z9 S d l)(h:S p=none):p≠d/\p≠l:=by
 obtain⟨s,n,f,D⟩:=D
 exact⟨(fun e=>by have:=D.d;rw[<-e,h]at this;cases this),(fun e=>by have:=D.l;rw[<-e,h]at this;cases this)⟩
def jj(s n m:Int)(l:Addr):gN (bz s n l) (Sum.inr "number") (.int m)=bz s m l:=by
 simp[gN,bz,sS,aF]
def qx(s n m:Int)(l:Addr):gN (bz s n l) (Sum.inr "seed") (.int m)=bz m n l:=by
 simp[gN,bz,sS,aF]
def vE(s n:Int)(l:Addr):dy (bz s n l) (Sum.inr "seed")=some (.int s):=by simp[dy,bz,sS,aF]
def qy(s n:Int)(l:Addr):dy (bz s n l) (Sum.inr "number")=some (.int n):=by simp[dy,bz,sS,aF]
def vF(s n:Int)(l:Addr):dy (bz s n l) (Sum.inr "left")=some (.ref l):=by simp[dy,bz,sS,aF]
abbrev bu(w:aA):Prop:=∀{S:ar} {d l:Addr} {m:Int} {Q:bF} {E:cz},z9 S d l->0 < m->m < 2 ^ 62->(∀r S',0<=r->r < m->z9 S' d l->AO d l S S'->Q (.int r) S')->w [.ref d,.int m] S Q E
def zT:bu (Ab 5 eA):=by
  intro S d l m Q E D h0 h1 k
  obtain⟨seed,number,left,D⟩:=D
  have hne:=D.ne
  have hsz:∀a b,(bz a b l).length < sizeLine:=fun _ _=>du (by show 3<=1000;decide)
  have fin:∀num CU S1,BQ S1 d l seed num CU->AO d l S S1->¬(num=0/\0 < CU.length)->
      (if 0 < num then lp num m/\(bz seed num l).length < sizeLine/\m≠0/\Q (PV.int (num.fmod m)) (zS S1 d (SO.dct (bz seed (num.fdiv m) l)))
       else IntMulOk seed 48271/\(2147483647:Int)≠0/\IntMulOk ((seed * 48271+7919).fmod 2147483647) 40692/\(2147483399:Int)≠0/\(bz seed num l).length < sizeLine/\
        IntMulOk (((seed * 48271+7919).fmod 2147483647 * 40692+104729).fmod 2147483399) (((seed * 48271+7919).fmod 2147483647 * 40692+104729).fmod 2147483399)/\(2147483563:Int)≠0/\
        IntMulOk ((seed * 48271+7919).fmod 2147483647) ((seed * 48271+7919).fmod 2147483647)/\(2147483629:Int)≠0/\
        IntMulOk (((seed * 48271+7919).fmod 2147483647 * (seed * 48271+7919).fmod 2147483647).fmod 2147483629) 2147483563/\m≠0/\
        Q (PV.int ((((seed * 48271+7919).fmod 2147483647 * (seed * 48271+7919).fmod 2147483647).fmod 2147483629 * 2147483563+((((seed * 48271+7919).fmod 2147483647 * 40692+104729).fmod 2147483399) * (((seed * 48271+7919).fmod 2147483647 * 40692+104729).fmod 2147483399)).fmod 2147483563).fmod m))
          (zS S1 d (SO.dct (bz (((seed * 48271+7919).fmod 2147483647 * 40692+104729).fmod 2147483399) num l)))):=by
    intro num CU S1 D1 O1 hz
    split
    . rename_i hp
      rw[gi (Lm h0),xy (Lm h0)]
      refine⟨xz h0 (by omega),hsz _ _,by omega,k _ _ (Int.emod_nonneg _ (by omega)) (Lp _ h0) ⟨seed,num / m,CU,aa,by rw[aj hne.symm];exact D1.l,D1.s0,D1.s1,Int.ediv_nonneg D1.nm (Lm h0),D1.lf,D1.ln⟩ (O1.trans .upd)⟩
    . have e1:∀x:Int,x.fmod 2147483647=x % 2147483647:=fun x=>gi (by decide)
      have e2:∀x:Int,x.fmod 2147483399=x % 2147483399:=fun x=>gi (by decide)
      simp only[e1,e2,gi (Lm h0)]
      have p1:=D1.s0
      have p2:=D1.s1
      refine⟨sP (by decide) (by decide),by decide,sP (by decide) (by decide),by decide,hsz _ _,vD (by omega) (by omega),by decide,vD (by omega) (by omega),by decide,sP (by decide) (by decide),by omega,
        k _ _ (Int.emod_nonneg _ (by omega)) (Lp _ h0) ⟨_,num,CU,aa,by rw[aj hne.symm];exact D1.l,by omega,by omega,D1.nm,D1.lf,D1.ln⟩ (O1.trans .upd)⟩
  unfold Ab eA
  rw[show az 5 [PV.ref d,PV.int m]=[some (.ref d),some (.int m),none,none,none] from rfl]
  simp only[af]
  refine⟨fun n σ S'=>σ=[some (.ref d),some (.int m),none,none,none]/\∃number left,BQ S' d l seed number left/\left.length=n/\AO d l S S',⟨_,rfl,number,left,D,rfl,.refl⟩,?_⟩
  rintro n σ S1 ⟨rfl,num,CU,D1,hn,O1⟩
  walk_at "x"
  simp only[D1.d,D1.l,qy,vF,vE,qx,jj,aa,HZ,Ib]
  have hlen:(List.map PV.int CU).length=CU.length:=HM ..
  rw[hlen]
  split
  . rename_i hz
    subst hz
    split
    . rename_i hl
      refine⟨fun σ S'=>σ=[some (.ref d),some (.int m),none,none,none]/\∃number left,BQ S' d l seed number left/\left.length < n/\AO d l S S',?_,?_⟩
      . rintro σ' S' ⟨rfl,a,b,h2,h3,h4⟩
        exact⟨_,h3,rfl,a,b,h2,rfl,h4⟩
      . have hl':0 < CU.length:=by omega
        obtain⟨pre,x,rfl⟩:∃pre x,CU=pre++[x]:=by
          refine⟨CU.dropLast,CU.getLast (by intro e;rw[e]at hl';simp at hl'),(Kc _).symm⟩
        refine⟨trivial,?_⟩
        rw[show(List.map PV.int (pre++[x]))[(pre++[x]).length - 1]?=some (.int x) by simp,show(List.map PV.int (pre++[x])).dropLast=pre.map PV.int by simp]
        simp only[aj hne,D1.d,jj]
        refine⟨hsz _ _,trivial,x,pre,⟨aa,by rw[aj hne.symm,aa],D1.s0,D1.s1,D1.lf x (by simp),fun y hy=>D1.lf y (by simp[hy]),by have:=D1.ln;simp at this;omega⟩,?_,O1.trans (AO.Hg.trans .upd)⟩
        rw[<-hn];simp
    . rename_i hl
      exact fin 0 CU S1 D1 O1 (fun z=>hl (by omega))
  . rename_i hz
    rw[if_neg (by decide)]
    exact fin num CU S1 D1 O1 (fun z=>hz z.1)
end C
namespace L3
open PySem L2
def Ext(S S':ar):Prop:=∀a o,S a=some o->S' a=some o
def Ext.refl{S:ar}:Ext S S:=fun _ _ h=>h
def Ext.trans{S S1 S2:ar}(a:Ext S S1)(b:Ext S1 S2):Ext S S2:=fun x o h=>b x o (a x o h)
def Ext.new{S:ar}{p:Addr}{o:SO}(h:S p=none):Ext S (zS S p o):=fun x u hx=>by rw[aj (fun e=>by rw[e,h]at hx;cases hx)];exact hx
def Ext.free{S S':ar}(e:Ext S S'){p:Addr}(h:S' p=none):S p=none:=by
 cases q:S p with
 |none=>rfl
 |some o=>rw[e p o q]at h;cases h
theorem dM{g:Tg}{tc:il}{te:aO}{σ':b5}{keep:ar->Prop}{fin:List PV->ar->Prop}{S:ar}(f:PV->PV)(c:PV->Bool)(hk:keep S):∀(items ys:List PV),
  (∀x∈items,∃σ2,g.put x σ'=some σ2/\(∀Q:Bool->ar->Prop,Q (c x) S->tc σ2 S Q dD)/\(c x=true->∀Q:bF,Q (f x) S->te σ2 S Q dD))->ys.length+items.length<=sizeLine->fin (ys++(items.filter c).map f) S->cu g tc te σ' keep fin items ys S
 |[],ys,_,hl,hf=>⟨hk,by simpa using hl,by simpa using hf⟩
 |x::r,ys,h,hl,hf=>by
  obtain⟨σ2,e,h1,h2⟩:=h x (by simp)
  refine⟨hk,by simp at hl;omega,?_⟩
  rw[e]
  refine h1 _ ?_
  cases hc:c x with
  |true=>
   rw[if_pos rfl]
   refine h2 hc _ (dM f c hk r (ys++[f x]) (fun y hy=>h y (by simp[hy])) (by simp at hl ⊢;omega) ?_)
   rw[K9,hc,if_pos rfl]at hf
   simpa using hf
  |false=>
   rw[if_neg (by decide)]
   refine dM f c hk r ys (fun y hy=>h y (by simp[hy])) (by simp at hl ⊢;omega) ?_
   rw[K9,hc,if_neg (by decide)]at hf
   exact hf
def oq{g:Tg}{te:aO}{σ':b5}{keep:ar->Prop}{fin:List PV->ar->Prop}{S:ar}(f:PV->PV){items:List PV}(hk:keep S)
  (h:∀x∈items,∃σ2,g.put x σ'=some σ2/\∀Q:bF,Q (f x) S->te σ2 S Q dD) (hl:items.length<=sizeLine) (hf:fin (items.map f) S):cu g bQ te σ' keep fin items [] S:=by
 refine dM f (fun _=>true) hk items [] (fun x hx=>?_) (by simpa using hl) (by rw[List.filter_eq_self.mpr (fun _ _=>rfl)];exact hf)
 obtain⟨σ2,e,k⟩:=h x hx
 exact⟨σ2,e,fun Q q=>q,fun _=>k⟩
theorem ke{g:Tg}{tc:il}{te:aO}{σ':b5}{keep:ar->Prop}{fin:List PV->ar->Prop}{items:List PV}(Iv:List PV->List PV->ar->Prop)(hk:∀done ys S,Iv done ys S->keep S/\ys.length<=sizeLine)
  (step:∀done x rest ys S (K:List PV->ar->Prop),items=done++x::rest->Iv done ys S->(∀ys' S',Iv (done++[x]) ys' S'->K ys' S')->match g.put x σ' with
   |some σ2=>tc σ2 S (fun b S3=>if b=true then te σ2 S3 (fun y S4=>K (ys++[y]) S4) dD else K ys S3) dD
   |none=>False)
  (hf:∀ys S,Iv items ys S->fin ys S):∀(rest done ys:List PV) (S:ar),items=done++rest->Iv done ys S->cu g tc te σ' keep fin rest ys S
 |[],done,ys,S,e,h=>by
  rw[Iw]at e
  exact⟨(hk _ _ _ h).1,(hk _ _ _ h).2,hf ys S (e▸h)⟩
 |x::rest,done,ys,S,e,h=>by
  refine⟨(hk _ _ _ h).1,(hk _ _ _ h).2,?_⟩
  exact step done x rest ys S (fun ys' S'=>cu g tc te σ' keep fin rest ys' S') e h fun ys' S' h'=>ke Iv hk step hf rest (done++[x]) ys' S' (by rw[e];simp) h'
theorem lB{g:Tg}{tb:bC}{D:ll}{keep:ar->Prop}{items:List PV}(Iv:List PV->b5->ar->Prop)(hk:∀done σ S,Iv done σ S->keep S)
  (step:∀done x rest σ S (K:b5->ar->Prop),items=done++x::rest->Iv done σ S->(∀σ' S',Iv (done++[x]) σ' S'->K σ' S')->match g.put x σ with
   |some σ'=>tb { D with nx:=K,ct:=K,bk:=D.nx } σ' S
   |none=>False)
  (hd:∀σ S,Iv items σ S->D.nx σ S):∀(rest done:List PV) (σ:b5) (S:ar),items=done++rest->Iv done σ S->ls g tb D keep rest σ S
 |[],done,σ,S,e,h=>by
  rw[Iw]at e
  exact⟨hk _ _ _ h,hd σ S (e▸h)⟩
 |x::rest,done,σ,S,e,h=>
  ⟨hk _ _ _ h,step done x rest σ S (ls g tb D keep rest) e h fun σ' S' h'=>lB Iv hk step hd rest (done++[x]) σ' S' (by rw[e];simp) h'⟩
def b_{g:Tg}{tb:bC}{D:ll}{keep:ar->Prop}{items:List PV}{σ:b5}{S:ar}(Iv:List PV->b5->ar->Prop)(h0:Iv [] σ S)(hk:∀done σ S,Iv done σ S->keep S)
  (step:∀done x rest σ S (K:b5->ar->Prop),items=done++x::rest->Iv done σ S->(∀σ' S',Iv (done++[x]) σ' S'->K σ' S')->match g.put x σ with
   |some σ'=>tb { D with nx:=K,ct:=K,bk:=D.nx } σ' S
   |none=>False)
  (hd:∀σ S,Iv items σ S->D.nx σ S):ls g tb D keep items σ S:=lB Iv hk step hd items [] σ S rfl h0
def bV{g:Tg}{tc:il}{te:aO}{σ':b5}{keep:ar->Prop}{fin:List PV->ar->Prop}{items:List PV}{S:ar}(Iv:List PV->List PV->ar->Prop)(h0:Iv [] [] S)(hk:∀done ys S,Iv done ys S->keep S/\ys.length<=sizeLine)
  (step:∀done x rest ys S (K:List PV->ar->Prop),items=done++x::rest->Iv done ys S->(∀ys' S',Iv (done++[x]) ys' S'->K ys' S')->match g.put x σ' with
   |some σ2=>tc σ2 S (fun b S3=>if b=true then te σ2 S3 (fun y S4=>K (ys++[y]) S4) dD else K ys S3) dD
   |none=>False)
  (hf:∀ys S,Iv items ys S->fin ys S):cu g tc te σ' keep fin items [] S:=ke Iv hk step hf items [] [] S rfl h0
def al{t u:bC}{D:ll}{σ:b5}{S:ar}(h:∀N:b5->ar->Prop,(∀σ S,u D σ S->N σ S)->t { D with nx:=N } σ S):af t u D σ S:=h (u D) fun _ _ q=>q
def fT{n:Nat}{b:bC}{args:List PV}{S:ar}{Q:bF}{E:cz}(h:b { nx:=fun _ S'=>Q .non S',rt:=Q,ex:=dD } (az n args) S):Ab n b args S Q E:=h
def qz{α β:Type}(f:α->β)(xs:List α)(lo hi:Option Int):dg (xs.map f) lo hi=(dg xs lo hi).map f:=by
 unfold dg
 rw[HM,Kd,List.map_drop]
def qA{α:Type}(xs:List α)(lo hi:Option Int):(dg xs lo hi).length<=xs.length:=by
 unfold dg
 rw[IG,IQ]
 omega
def cx{n:Nat}(h:n<=1000):n<=sizeLine:=KQ (du h)
section
variable {α:Type} {a b c d e:α} {l:List α}
def fu:AD (a::l) 0=some a:=by simp[AD,nI]
def jk:AD (a::b::l) 1=some b:=cw (j:=1) rfl
def ya:AD (a::b::c::l) 2=some c:=cw (j:=2) rfl
def zL:AD (a::b::c::d::e::l) 4=some e:=cw (j:=4) rfl
def vG:AD [a] (-1)=some a:=rfl
def vH:AD [a,b] (-1)=some b:=rfl
def vI:AD [a,b,c] (-1)=some c:=rfl
def vJ:AD [a,b,c,d] (-1)=some d:=rfl
def vK:AD [a,b,c,d,e] (-1)=some e:=rfl
def vL:AD [a,b] (-2)=some a:=rfl
def vM:AD [a,b,c] (-2)=some b:=rfl
def vN:AD [a,b,c,d] (-2)=some c:=rfl
def vO:AD [a,b,c,d,e] (-2)=some d:=rfl
end
def cO(lo:Int)(n:Nat):(br lo n).length=n:=by simp[br]
end L3
namespace C
open PySem L2 L3
abbrev lC(w:aA):Prop:=∀{S:ar} {ns:Vu} {b:Int} {Q:bF} {E:cz},ns.length<=63->0<=b->b < 1000->(∀d l S',S d=none->S l=none->z9 S' d l->Ext S S'->Q (.ref d) S')->w [.cl (ns.map PV.int),.int b] S Q E
def B1:lC (Ab 5 eu):=by
 intro S ns b Q E hn h0 h1 k
 unfold Ab eu
 rw[show az 5 [PV.cl (ns.map PV.int),PV.int b]=[some (.cl (ns.map PV.int)),some (.int b),none,none,none] from rfl]
 walk_at "x"
 intro p hp
 rw[aa]
 dsimp only
 rw[qz]
 have hx:(dg ns (some b) (some 63)).length<=63:=Ik (qA _ _ _) hn
 generalize dg ns (some b) (some 63)=xs at hx
 refine oq (fun v=>match v with | .int i=>.int (if 0 - i > i then 0 - i else i)|v=>v) aa (fun x hx=>?_) (cx (by rw[HM];omega)) ?_
 ·obtain⟨i,hi,rfl⟩:=ID.mp hx
  refine⟨[some (.int i)],rfl,fun Q q=>?_⟩
  walk_at "x"
  exact q
 intro p2 hp2
 rw[aa]
 dsimp only
 rw[JH]
 have e0:(xs.map ((fun v=>match v with | .int i=>.int (if 0 - i > i then 0 - i else i)|v=>v) ∘ PV.int))=(xs.map fun i=>if 0 - i > i then 0 - i else i).map PV.int:=by
  rw[JH];rfl
 rw[e0]
 have hy:((xs.map fun i=>if 0 - i > i then 0 - i else i)).length<=63:=by rw[HM];exact hx
 have Fc:∀y∈xs.map (fun i:Int=>if 0 - i > i then 0 - i else i),0<=y:=by
  intro y hy
  obtain⟨i,_,rfl⟩:=ID.mp hy
  split<;>omega
 generalize (xs.map fun i=>if 0 - i > i then 0 - i else i)=ys at hy Fc
 have h2:p2≠p:=fun e=>by rw[e,aa]at hp2;cases hp2
 have hp2':S p2=none:=by rw[<-hp2,aj h2]
 refine b_ (fun done σ S'=>S'=zS (zS S p (.lst (xs.map PV.int))) p2 (.lst (ys.map PV.int))/\∃v2 n,0<=n/\n < 2147483647/\σ=[some (.cl (ns.map PV.int)),some (.int b),v2,some (.ref p2),some (.int n)]) ⟨rfl,none,7919+b,by omega,by omega,rfl⟩ (fun done σ S' h=>by rw[h.1];exact aa) ?_ ?_
 ·rintro done x rest σ S' K e ⟨rfl,v2,n,n0,n1,rfl⟩ hK
  obtain⟨i,hi,rfl⟩:∃i,i∈ys/\x = .int i:=by
   have:x∈ys.map PV.int:=by rw[e];simp
   obtain⟨i,hi,rfl⟩:=ID.mp this
   exact⟨i,hi,rfl⟩
  walk_at "x"
  refine⟨sP (by decide) (by decide),by decide,by decide,hK _ _ ⟨rfl,_,_,?_,?_,rfl⟩⟩
  ·rw[gi (by decide)];omega
  ·rw[gi (i:=(n * 48271+_)) (by decide)];omega
 ·rintro σ S' ⟨rfl,v2,n,n0,n1,rfl⟩
  walk_at "x"
  intro d hd
  have hd2:d≠p2:=fun e=>by rw[e,aa]at hd;cases hd
  rw[aj hd2]at hd
  have hd1:d≠p:=fun e=>by rw[e,aa]at hd;cases hd
  rw[aj hd1]at hd
  rw[aj hd2.symm,aa]
  dsimp only
  refine dM (fun v=>v) (fun v=>match v with | .int i=>decide (10 ^ 18<=i)|_=>false) (by rw[aj hd2.symm,aa]) _ [] (fun x hx=>?_) (by rw[HM];exact cx (by simp;omega)) ?_
  ·obtain⟨i,hi,rfl⟩:=ID.mp hx
   refine⟨[some (.int i)],rfl,fun Q q=>?_,fun _ Q q=>?_⟩
   ·walk_at "x"
    exact⟨⟨by decide,by decide,by decide⟩,q⟩
   ·walk_at "x"
    exact q
  intro p3 hp3
  rw[aa]
  intro l hl
  have e3:([]++List.map (fun v:PV=>v) (List.filter (fun v=>match v with | .int i=>decide (10 ^ 18<=i)|_=>false) (List.map PV.int ys)))=(ys.filter fun i=>decide (10 ^ 18<=i)).map PV.int:=by
   rw[Jm,List.map_id',List.filter_map]
   rfl
  rw[e3]at hl ⊢
  rw[<-List.map_reverse]
  generalize Gv:zS (zS (zS (zS S p (SO.lst (List.map PV.int xs))) p2 (SO.lst (List.map PV.int ys))) d (SO.dct [])) p3 (SO.lst (List.map PV.int (List.filter (fun i=>decide (10 ^ 18<=i)) ys)))=S3 at hl ⊢
  have Gw:S3 d=some (.dct []):=by rw[<-Gv,aj (fun e=>by rw[<-e,aa]at hp3;cases hp3),aa]
  have Gx:l≠d:=fun e=>by rw[e,Gw]at hl;cases hl
  have FS:Ext S S3:=by
   rw[<-Gv]
   refine(Ext.new hp).trans ((Ext.new hp2).trans ((Ext.new ?_).trans (.new hp3)))
   rw[aj hd2,aj hd1];exact hd
  refine⟨by rw[aj Gx.symm];exact Gw,?_⟩
  have e4:j7 [(PV.str "seed",PV.int n),(PV.str "number",PV.int 0),(PV.str "left",PV.ref l)]=some (bz n 0 l):=rfl
  rw[e4]
  have e5:cJ [] (bz n 0 l)=bz n 0 l:=by simp[cJ,bz,gN,sS,aF]
  dsimp only
  rw[e5]
  refine k d l _ hd (FS.free hl) ⟨n,0,_,aa,by rw[aj Gx,aa],n0,n1,Int.le_refl _,fun y hy=>?_,?_⟩ ?_
  ·exact Fc y (Ld.mp (List.mem_reverse.mp hy)).1
  ·rw[List.length_reverse]
   exact Ik (Kf _ _) (by omega)
  ·intro a o ha
   have had:a≠d:=fun e=>by rw[e,hd]at ha;cases ha
   rw[aj had,aj (fun e=>by rw[e,FS.free hl]at ha;cases ha)]
   exact FS a o ha
end C
namespace L3
open PySem L2
theorem jm(S:ar):∀zs:List Str,BB S (zs.map PV.str) (zs.map PyData.str)
 |[]=>.nil
 |z::r=>.cons (.str z) (jm S r)
theorem eI:∀{zs:Vs},(∀z∈zs,PyData.strOk z=true)->PyData.canLayAll0 (zs.map PyData.str)=true
 |[],_=>rfl
 |z::r,h=>by
  show(PyData.canLay0 (.str z)&&PyData.canLayAll0 (r.map PyData.str))=true
  rw[eI fun y hy=>h y (by simp[hy])]
  have:PyData.canLay0 (.str z)=true:=h z (by simp)
  rw[this];rfl
def jo(z:Str)(zs:Vs):io (.str z) (zs.map PyData.str)=decide (z∈zs):=by
 unfold io
 rw[List.any_map,J9,List.any_eq_true,decide_eq_true_iff]
 constructor
 ·rintro⟨y,hy,e⟩
  have e':(y == z)=true:=e
  exact(eq_of_beq e')▸hy
 ·intro h
  exact⟨z,h,beq_self_eq_true z⟩
def eY{neg:Bool}{z:Str}{zs:Vs}{a:Addr}{S:ar}{Q:bF}(hS:S a=some (.lst (zs.map PV.str)))(hz:PyData.strOk z=true)(hzs:∀y∈zs,PyData.strOk y=true)(q:Q (.bl (neg != decide (z∈zs))) S):iM neg (.str z) (.ref a) S Q:=by
 unfold iM
 simp only[hS]
 exact⟨_,_,.str z,jm S zs,hz,eI hzs,by show 0<=150;decide,by rw[jo];exact q⟩
def bE{neg:Bool}{z:Str}{zs:Vs}{S:ar}{Q:bF}(hz:PyData.strOk z=true)(hzs:∀y∈zs,PyData.strOk y=true)(q:Q (.bl (neg != decide (z∈zs))) S):iM neg (.str z) (.tup (zs.map PV.str)) S Q:=by
 unfold iM
 exact⟨_,_,.str z,jm S zs,hz,eI hzs,by show 0<=150;decide,by rw[jo];exact q⟩
end L3
namespace C
open PySem L2 L3 Wd
abbrev kQ(w:aA):Prop:=∀{S:ar} {t b:Int} {Q:bF} {E:cz},0 < b->b.natAbs < 2 ^ 8000->Q (.tup [.int (M3.kG t b),.int (M3.li t b)]) S->w [.int t,.int b] S Q E
def CK:kQ (Ab 4 fE):=by
 intro S t b Q E hb hs k
 unfold Ab fE
 rw[show az 4 [PV.int t,PV.int b]=[some (.int t),some (.int b),none,none] from rfl]
 simp only[af]
 walk_at "x"
 refine⟨fun n σ S'=>S'=S/\∃x y:Int,σ=[some (.int t),some (.int b),some (.int x),some (.int y)]/\0<=x/\0<=y/\Int.gcd x y=Int.gcd t b/\y.toNat=n,⟨_,rfl,_,b,rfl,by split<;>omega,by omega,?_,rfl⟩,?_⟩
 ·split
  ·rw[show(0 - t) = -t by omega,Int.neg_gcd]
  ·rfl
 rintro n σ S' ⟨rfl,x,y,rfl,hx,hy,hg,rfl⟩
 walk_at "x"
 simp only[Ib]
 split
 ·rename_i hp
  refine⟨fun σ' C3=>C3=S'/\∃x' y':Int,σ'=[some (.int t),some (.int b),some (.int x'),some (.int y')]/\0<=x'/\0<=y'/\Int.gcd x' y'=Int.gcd t b/\y'.toNat < y.toNat,?_,?_⟩
  ·rintro σ' C3 ⟨rfl,x',y',rfl,h1,h2,h3,h4⟩
   exact⟨_,h4,rfl,x',y',rfl,h1,h2,h3,rfl⟩
  ·walk_at "x"
   have e:x.fmod y=x % y:=gi hy
   have l1:=Int.emod_nonneg x (b:=y) (by omega)
   have l2:=Lp x hp
   refine⟨by omega,trivial,y,x.fmod y,rfl,hy,by omega,?_,by omega⟩
   rw[M3.pN];exact hg
 ·rename_i hp
  have Fc:y=0:=by omega
  subst Fc
  have Hh:x=(Int.gcd t b:Int):=by
   rw[<-hg]
   rw[Int.gcd_zero_right]
   omega
  subst Hh
  have gp:(0:Int) < (Int.gcd t b:Int):=Li.mpr (M3.f8 (by omega))
  have gl:=M3.vc (t:=t) (b:=b) (by omega)
  have cd:∀z,lp z (Int.gcd t b:Int):=fun z=>⟨by omega,KL (by omega) hs⟩
  refine⟨cd _,cd _,?_⟩
  have d1:=(M3.pM (t:=t) (b:=b) (by omega))
  rw[if_neg (by omega)]at d1
  rw[d1.1,d1.2]
  exact k
structure xA (x y:Int):Prop where
 low:M3.zk x y
 x0:0<=x
 x1:x<=999
 y1:y<=9
def ot{n:Nat}(h:n < 2 ^ 64):n < 2 ^ 8000:=Lx h (Nat.pow_lt_pow_right (by decide) (by decide))
abbrev gj(w:aA):Prop:=∀{S:ar} {d l:Addr} {Q:bF} {E:cz},z9 S d l->(∀x y S',xA x y->z9 S' d l->AO d l S S'->Q (.tup [.int x,.int y]) S')->w [.ref d] S Q E
def BI{wd wl:aA}(zT:bu wd)(CK:kQ wl):gj (Ab 2 (eB wd wl)):=by
 intro S d l Q E D k
 unfold Ab eB
 rw[show az 2 [PV.ref d]=[some (.ref d),none] from rfl]
 walk_at "x"
 refine zT D (by decide) (by decide) fun r S1 r0 r1 D1 O1=>?_
 simp only[HZ,Ib]
 split
 ·exact k 0 1 S1 ⟨⟨by decide,by decide⟩,by decide,by decide,by decide⟩ D1 O1
 ·split
  ·refine zT D1 (by decide) (by decide) fun r2 S2 a0 a1 D2 O2=>?_
   exact k _ 1 S2 ⟨⟨by decide,Int.gcd_one_right _⟩,by omega,by omega,by decide⟩ D2 (O1.trans O2)
  ·refine zT D1 (by decide) (by decide) fun r2 S2 a0 a1 D2 O2=>zT D2 (by decide) (by decide) fun r3 S3 b0 b1 D3 O3=>?_
   refine CK (by omega) (ot (by omega)) ?_
   have z:=M3.pO (t:=r2) (b:=1+r3) (T:=999) (B:=9) (by omega) (by omega) (by omega) (by omega) (by omega) (by decide) (by decide)
   refine k _ _ S3 ⟨M3.mX (by omega),?_,z.2.1,z.2.2.2⟩ D3 (O1.trans (O2.trans O3))
   unfold M3.kG
   rw[if_neg (by omega)]
   exact Int.ediv_nonneg a0 (by omega)
def ou{r:Int}(h0:0<=r)(h1:r < 26):∃c,AD abc.cps.toList r=some c/\97<=c/\c<=122:=by
 obtain⟨n,rfl⟩:=JC h0
 have q:=kF n
 rw[Nat.mod_eq_of_lt (by omega)]at q
 exact⟨_,q,by omega,by omega⟩
def gW{z:Str}(h:Ch z):PyData.strOk z=true:=by
 unfold PyData.strOk
 rw[Array.all_eq_true']
 intro c hc
 have:=h.sm c (by simpa using hc)
 simp;omega
def sQ:∀z∈AN,PyData.strOk z=true:=by decide +kernel
theorem gX:∀zs:List Str,texts (zs.map PV.str)=some zs
 |[]=>rfl
 |z::r=>by show(texts (r.map PV.str)).map (z::·)=_;rw[gX r];rfl
def ow:("":Str).length=0:=by decide +kernel
def kf{cs:List Nat}(h:cs.length<=1000):((cs.map kE).map (·.length)).sum+(cs.map kE).length * ("":Str).length<=1000000:=by
 rw[si,ow]
 omega
def jp{w__law_draw:aA}(zT:bu w__law_draw){S:ar}{d l:Addr}{σ:b5}{n:Int}{fin:List PV->ar->Prop}(D:z9 S d l)(hn:n.toNat<=100)(h1:lk σ 1=some (.ref d))(h2:lk σ 2=some (.str abc))(hσ:∃x,σ=[x,some (.ref d),some (.str abc)])
  (k:∀(cs:List Nat) S',cs.length=n.toNat->(∀c∈cs,97<=c/\c<=122)->z9 S' d l->AO d l S S'->fin ((cs.map kE).map PV.str) S') :
  cu (Tg.n 0) bQ (ah ag (v3 2) (ad w__law_draw [v3 1,c3 (.int 26)])) σ (fun _=>True) fin (br 0 n.toNat) [] S:=by
 obtain⟨x0,rfl⟩:=hσ
 refine bV (fun done ys S'=>∃cs:List Nat,ys=(cs.map kE).map PV.str/\cs.length=done.length/\done.length<=n.toNat/\(∀c∈cs,97<=c/\c<=122)/\z9 S' d l/\AO d l S S') ⟨[],rfl,rfl,IA _,by simp,D,.refl⟩ ?_ ?_ ?_
 ·rintro done ys S' ⟨cs,rfl,e,hd,_⟩
  exact⟨trivial,cx (by rw[HM,HM,e];omega)⟩
 ·rintro done x rest ys S' K e ⟨cs,rfl,e2,hd,hc,D',O'⟩ hK
  have hlen:done.length+1<=n.toNat:=by
   have:=I9 List.length e
   rw[cO,HL,Ih]at this
   omega
  walk_at "x"
  simp only[bQ,IV]
  refine zT D' (by decide) (by decide) fun r S2 r0 r1 D2 O2=>⟨iK.1,?_⟩
  obtain⟨c,ec,c0,c1⟩:=ou r0 r1
  rw[ec]
  refine hK _ _ ⟨cs++[c],by simp,by simp[e2],by simpa using hlen,fun y hy=>?_,D2,O'.trans O2⟩
  rcases HV.mp hy with hy|hy
  ·exact hc y hy
  ·rw[Ij.mp hy];exact⟨c0,c1⟩
 ·rintro ys S' ⟨cs,rfl,e,hd,hc,D',O'⟩
  exact k cs S' (by rw[e,cO]) hc D' O'
theorem lD{f:Str->List Nat}(r:List Nat):∀xs:List Str,(xs.map f).Nodup->(xs.filter fun z=>f z == r).length<=1
 |[],_=>IA _
 |x::xs,h=>by
  rw[Io,Jd]at h
  rw[K9]
  by_cases e:(f x == r)=true
  ·rw[if_pos e]
   have no:(xs.filter fun z=>f z == r)=[]:=by
    refine List.filter_eq_nil_iff.mpr fun z hz q=>h.1 ?_
    rw[eq_of_beq e,<-eq_of_beq q]
    exact ID.mpr ⟨z,hz,rfl⟩
   rw[no]
   exact HU _
  ·rw[if_neg e]
   exact lD r xs h.2
def qB(r:List Nat):(AN.filter fun z=>z.cps.toList.tail == r).length<=1:=lD (f:=fun z=>z.cps.toList.tail) r AN (by decide +kernel)
def mB(r:List Nat)(c:Nat)(ns:Vs)(h:ns.length < 17):∃j,j < 26/\cand r (c+j) ∉ AN++ns:=by
 obtain⟨j,hj,free⟩:=nZ r c ((AN.filter fun z=>z.cps.toList.tail == r)++ns) (by rw[HL];have:=qB r;omega)
 refine⟨j,hj,fun hm=>free ?_⟩
 rcases HV.mp hm with q|q
 ·exact JP _ (Ld.mpr ⟨q,by simp[cand]⟩)
 ·exact IB _ q
abbrev dA(w:aA):Prop:=∀{S:ar} {d l:Addr} {m:Int} {Q:bF} {E:cz},z9 S d l->0<=m->m<=17->(∀p (ns:Vs) S',ns.length=m.toNat->ns.Nodup->(∀z∈ns,Ch z/\z ∉ AN)->S p=none->p≠d->p≠l->S' p=some (.lst (ns.map PV.str))->z9 S' d l->AO d l S S'->Q (.ref p) S')->w [.ref d,.int m] S Q E
def AQ{wd:aA}(zT:bu wd):dA (Ab 11 (dH wd)):=by
 intro S d l m Q E D h0 h1 k
 unfold dH
 refine fT ?_
 rw[show az 11 [PV.ref d,PV.int m]=[some (.ref d),some (.int m),none,none,none,none,none,none,none,none,none] from rfl]
 refine al fun N hN=>?_
 walk_at "x"
 refine hN _ _ (al fun N hN=>?_)
 walk_at "x"
 intro pT hT
 have dT:=D.free hT
 have D0:z9 (zS S pT (.lst (AN.map PV.str))) d l:=D.new hT
 have Gy:(zS S pT (.lst (AN.map PV.str))) pT=some (.lst (AN.map PV.str)):=aa
 have O0:AO d l S (zS S pT (.lst (AN.map PV.str))):=.new hT
 have eK:[PV.str "jars",PV.str "deed",PV.str "rest",PV.str "pay",PV.str "put",PV.str "then",PV.str "either",PV.str "take",PV.str "often",PV.str "use"]=AN.map PV.str:=rfl
 rw[eK]
 generalize zS S pT (.lst (AN.map PV.str))=S0 at D0 Gy O0 ⊢
 refine hN _ _ (al fun N hN=>?_)
 walk_at "x"
 refine⟨trivial,zT D0 (by decide) (by decide) fun n S1 n0 n1 D1 O1=>⟨by omega,by omega,?_⟩⟩
 refine jp zT D1 (by omega) rfl rfl ⟨_,rfl⟩ fun cs S2 hl hc D2 O2 pj hj=>?_
 simp only[j4,aa,gX]
 refine⟨kf (by omega),?_⟩
 rw[show Txt.join (Str.ofString "") (cs.map kE)=⟨cs.toArray⟩from i3 cs]
 refine hN _ _ (al fun N hN=>?_)
 walk_at "x"
 have hcl:cs.length<=5:=by omega
 have lc:(⟨cs.toArray⟩:Str).length=cs.length:=HQ
 refine⟨by rw[lc];exact cx (by omega),zT (D2.new hj) (by rw[lc];omega) (by rw[lc];omega) fun at' S3 a0 a1 D3 O3=>zT D3 (by decide) (by decide) fun tu S4 t0 t1 D4 O4=>zT D4 (by decide) (by decide) fun nr S5 r0 r1 D5 O5=>?_⟩
 rw[lc]at a1
 obtain⟨an,rfl⟩:=JC a0
 obtain⟨tn,rfl⟩:=JC t0
 refine hN _ _ (al fun N hN=>?_)
 walk_at "x"
 intro q hq
 have dq:=D5.free hq
 have OA:AO d l S0 S5:=O1.trans (O2.trans ((AO.new hj).trans (O3.trans (O4.trans O5))))
 have FT:=OA _ _ Gy dT.1 dT.2
 have Gz:pT≠q:=fun e=>by rw[e,hq]at FT;cases FT
 have GA:S q=none:=by
  cases e:S q with
  |none=>rfl
  |some o=>rw[OA _ _ (O0 _ _ e dq.1 dq.2) dq.1 dq.2]at hq;cases hq
 refine hN _ _ (al fun N hN=>?_)
 simp only[cV,jI,v3,lk]
 refine⟨by omega,by omega,?_⟩
 refine b_ (fun done σ S'=>∃(ns:Vs) (v4 v10:Option PV) (near:Bool),σ=[some (.ref d),some (.int m),some (.str abc),some (.ref pT),v4,some (.str ⟨cs.toArray⟩),some (.int an),some (.int tn),some (.bl near),some (.ref q),v10]/\ns.length=done.length/\ns.Nodup/\(∀z∈ns,Ch z/\z ∉ AN)/\S' q=some (.lst (ns.map PV.str))/\S' pT=some (.lst (AN.map PV.str))/\z9 S' d l/\AO d l S S')
  ⟨[],_,_,_,rfl,rfl,Lo,(fun z hz=>nomatch hz),aa,by rw[aj Gz];exact FT,D5.new hq,O0.trans (OA.trans (.new hq))⟩ (fun _ _ _ _=>trivial) ?_ ?_
 ·rintro done x rest σ S6 K e ⟨ns,v4,v10,near,rfl,FU,FV,w6,Fd,FW,D6,O6⟩ hK
  have hlen:done.length < m.toNat:=by
   have:=I9 List.length e
   rw[cO,HL,Ih]at this
   omega
  have hx:x = .int (0+(done.length:Nat)):=by
   have h2:=I9 (fun l=>l[done.length]?) e
   simp only[IM (HU _),Nat.sub_self,List.getElem?_cons_zero]at h2
   unfold br at h2
   rw[HY,Kw hlen]at h2
   simpa using h2.symm
  subst hx
  -- the tail: a word is changed Hi it is new,then laid down
  have ql:∀(z:Str) (v4:Option PV) (S7:ar),Ch z->S7 q=some (.lst (ns.map PV.str))->S7 pT=some (.lst (AN.map PV.str))->z9 S7 d l->AO d l S S7->
    af (gR (lm (aU (ah (iM false) (v3 10) (v3 3))) (aU (ah (iM false) (v3 10) (v3 9)))) (aq 10 (ah aP (ah ag (v3 2) (ah fi (ah aP (d9 "str" gM (v3 2) [(ah ag (v3 10) (c3 (.int 0)))]) (c3 (.int 1))) (c3 (.int 26)))) (bf (v3 10) (jH (c3 (.int 1))) kK))))
     (aY (d9 "list" aZ (v3 9) [(v3 10)])) { nx:=K,rt:=Q,ex:=dD,bk:=N,ct:=K } [some (.ref d),some (.int m),some (.str abc),some (.ref pT),v4,some (.str ⟨cs.toArray⟩),some (.int an),some (.int tn),some (.bl near),some (.ref q),some (.str z)] S7:=by
   intro z v4 S7 hz GB GC D7 O7
   obtain⟨i,r,rfl,hi,Hj,hrs⟩:=hz.cand
   obtain⟨j,hj,free⟩:=mB r i ns (by omega)
   refine⟨fun mm σ S'=>∃t,σ=[some (.ref d),some (.int m),some (.str abc),some (.ref pT),v4,some (.str ⟨cs.toArray⟩),some (.int an),some (.int tn),some (.bl near),some (.ref q),some (.str (cand r (i+t)))]/\S'=S7/\t<=j/\mm=j - t,⟨j,0,rfl,rfl,IA _,rfl⟩,?_⟩
   rintro mm σ S' ⟨t,rfl,rfl,ht,rfl⟩
   have hw:=pK Hj hrs (i+t)
   have FX:∀y∈ns,PyData.strOk y=true:=fun y hy=>gW (w6 y hy).1
   have go:t < j->∃N:b5->ar->Prop,(∀σ' C3,N σ' C3->∃m',m' < j - t/\∃t',σ'=[some (.ref d),some (.int m),some (.str abc),some (.ref pT),v4,some (.str ⟨cs.toArray⟩),some (.int an),some (.int tn),some (.bl near),some (.ref q),some (.str (cand r (i+t')))]/\C3=S'/\t'<=j/\m'=j - t')/\
     N ([some (.ref d),some (.int m),some (.str abc),some (.ref pT),v4,some (.str ⟨cs.toArray⟩),some (.int an),some (.int tn),some (.bl near),some (.ref q),some (.str (cand r (i+(t+1))))]) S':=fun lt=>
    ⟨fun σ' C3=>σ'=[some (.ref d),some (.int m),some (.str abc),some (.ref pT),v4,some (.str ⟨cs.toArray⟩),some (.int an),some (.int tn),some (.bl near),some (.ref q),some (.str (cand r (i+(t+1))))]/\C3=S',fun σ' C3 ⟨e1,e2⟩=>⟨j - (t+1),by omega,t+1,e1,e2,by omega,rfl⟩,rfl,rfl⟩
   have Fe:((((i+t) % 26:Nat):Int)+1).fmod 26=(((i+t+1) % 26:Nat):Int):=by rw[gi (by decide)];omega
   walk_at "x"
   refine eY GC (gW hw) sQ ?_
   simp only[HZ,Ib]
   split
   ·rename_i g
    have lt:t < j:=Nat.lt_of_le_of_ne ht fun e=>by subst e;exact free (JP _ g)
    obtain⟨N,hN,hn⟩:=go lt
    rw[if_pos trivial]
    refine⟨N,hN,trivial,hw.line,?_⟩
    rw[jY]
    simp only[gM,pI _ (Nat.mod_lt _ (by decide))]
    refine⟨by decide,iK.1,?_⟩
    rw[Fe,kF (i+t+1)]
    refine⟨hw.line,?_,?_⟩
    ·rw[eX]
     exact cx (show 1+r.toArray.size<=1000 by rw[HQ];omega)
    ·rw[eX,jZ]
     exact hn
   ·rename_i g
    refine eY GB (gW hw) FX ?_
    simp only[HZ,Ib]
    split
    ·rename_i g2
     have lt:t < j:=Nat.lt_of_le_of_ne ht fun e=>by subst e;exact free (IB _ g2)
     obtain⟨N,hN,hn⟩:=go lt
     refine⟨N,hN,trivial,hw.line,?_⟩
     rw[jY]
     simp only[gM,pI _ (Nat.mod_lt _ (by decide))]
     refine⟨by decide,iK.1,?_⟩
     rw[Fe,kF (i+t+1)]
     refine⟨hw.line,?_,?_⟩
     ·rw[eX]
      exact cx (show 1+r.toArray.size<=1000 by rw[HQ];omega)
     ·rw[eX,jZ]
      exact hn
    ·rename_i g2
     simp only[GB]
     refine⟨trivial,by rw[HM];exact du (by omega),hK _ _ ⟨ns++[cand r (i+t)],_,_,_,rfl,by simp[FU],List.nodup_append.mpr ⟨FV,by simp,fun a ha b hb e=>?_⟩,fun z hz=>?_,by rw[Iz];exact aa,by rw[aj Gz];exact GC,D7.upd dq.1 dq.2,fun a o ha h1 h2=>?_⟩⟩
     ·rw[Ij.mp hb]at e
      exact g2 (e▸ha)
     ·rcases HV.mp hz with hz|hz
      ·exact w6 z hz
      ·rw[Ij.mp hz]
       exact⟨hw,g⟩
     ·rw[aj (fun e=>by rw[e,GA]at ha;cases ha)]
      exact O7 a o ha h1 h2
  obtain⟨pw,Hk,pl2⟩:=sj hcl hc (a:=an) (i:=(tn+done.length) % 26) (by omega) (Nat.mod_lt _ (by decide))
  have Fe:((tn:Int)+(0+(done.length:Int))).fmod 26=(((tn+done.length) % 26:Nat):Int):=by rw[gi (by decide)];omega
  have GD:(⟨cs.toArray⟩:Str).length<=sizeLine:=by rw[lc];exact cx (by omega)
  simp only[Tg.put]
  refine al fun N2 Bf=>?_
  walk_at "x"
  refine⟨GD,by decide,iK.1,?_⟩
  rw[Fe,kF (tn+done.length)]
  refine⟨Ik (Nat.add_le_add Hk (HU 1)) (by decide),GD,Ik (Ly (Array.size_append).symm) (Ik pw.len (by decide)),?_⟩
  refine Bf _ _ (al fun N3 Di=>?_)
  walk_at "x"
  split
  ·refine⟨trivial,zT D6 (by decide) (by decide) fun n2 Sa m0 m1 Da Oa=>⟨by omega,by omega,?_⟩⟩
   refine jp zT Da (by omega) rfl rfl ⟨_,rfl⟩ fun Ej Sb hl2 hc2 Db Ob Hl hj2=>?_
   simp only[j4,aa,gX]
   refine⟨kf (by omega),?_⟩
   rw[show Txt.join (Str.ofString "") (Ej.map kE)=⟨Ej.toArray⟩from i3 Ej]
   refine Di _ _ ?_
   have wz:Ch (⟨Ej.toArray⟩:Str):=⟨fun e=>by have e':Ej=[]:=e;rw[e']at hl2;simp at hl2;omega,by show Ej.length<=6;omega,hc2⟩
   have OB:AO d l S6 (zS Sb Hl (.lst ((Ej.map kE).map PV.str))):=Oa.trans (Ob.trans (.new hj2))
   exact ql _ _ _ wz (OB _ _ Fd dq.1 dq.2) (OB _ _ FW dT.1 dT.2) (Db.new hj2) (O6.trans OB)
  ·exact Di _ _ (ql _ _ S6 pw Fd FW D6 O6)
 ·rintro σ S6 ⟨ns,v4,v10,near,rfl,FU,FV,w6,Fd,FW,D6,O6⟩
  refine hN _ _ ?_
  walk_at "x"
  exact k q ns S6 (by rw[FU,cO]) FV w6 GA dq.1 dq.2 Fd D6 O6
inductive Bd where
 |rest|pay (x y:Int)|put (z:Str) (m:Int)|use (z:Str)|A2 (a:Bd)|zX (a b:Bd)|A3 (a b:Bd)|AR (z:Str) (m:Int) (a b:Bd)
noncomputable def Bd.pv:Bd->PV
 | .rest=>.tup [.str "rest"]
 | .pay x y=>.tup [.str "pay",.tup [.int x,.int y]]
 | .put z m=>.tup [.str "put",.str z,.int m]
 | .use z=>.tup [.str "use",.str z]
 | .A2 a=>.tup [.str "often",a.pv]
 | .zX a b=>.tup [.str "then",a.pv,b.pv]
 | .A3 a b=>.tup [.str "either",a.pv,b.pv]
 | .AR z m a b=>.tup [.str "take",.str z,.int m,a.pv,b.pv]
noncomputable def Bd.dep:Bd->Nat
 | .A2 a=>a.dep+1
 | .zX a b=>max a.dep b.dep+1
 | .A3 a b=>max a.dep b.dep+1
 | .AR _ _ a b=>max a.dep b.dep+1
 |_=>1
noncomputable def Bd.size:Bd->Nat
 | .A2 a=>a.size+1
 | .zX a b=>a.size+b.size+1
 | .A3 a b=>a.size+b.size+1
 | .AR _ _ a b=>a.size+b.size+1
 |_=>1
noncomputable def Bd.good(js us:Vs):Bd->Prop
 | .rest=>True
 | .pay x y=>xA x y
 | .put z m=>z∈js/\1<=m/\m<=9
 | .use z=>z∈us
 | .A2 a=>a.good js us
 | .zX a b=>a.good js us/\b.good js us
 | .A3 a b=>a.good js us/\b.good js us
 | .AR z m a b=>z∈js/\1<=m/\m<=9/\a.good js us/\b.good js us
def Bd.AL(t:Bd):1<=t.dep:=by cases t<;>simp[Bd.dep]
def dN{α:Type}{xs:List α}{r:Int}(h0:0<=r)(h1:r < xs.length):∃v,AD xs r=some v/\v∈xs:=by
 obtain⟨n,rfl⟩:=JC h0
 have hn:n < xs.length:=by omega
 exact⟨xs[n],cw (by simp[hn]),Ks hn⟩
noncomputable def Bd.leaf:Bd->Prop
 | .rest=>True
 | .pay _ _=>True
 | .put _ _=>True
 |_=>False
def Bd.An{t:Bd}(h:t.leaf):t.dep=1/\t.size=1:=by cases t<;>first|exact⟨rfl,rfl⟩|exact h.elim
abbrev gk(w:aA):Prop:=∀{S:ar} {d l:Addr} {js:Vs} {Q:bF} {E:cz},z9 S d l->js.length < 2 ^ 61->(∀(t:Bd) S',t.leaf->t.good js []->z9 S' d l->AO d l S S'->Q t.pv S')->w [.ref d,.tup (js.map PV.str)] S Q E
def AE{wd wc:aA}(zT:bu wd)(BI:gj wc):gk (Ab 4 (ck wd wc)):=by
 intro S d l js Q E D hj k
 unfold ck
 refine fT ?_
 rw[show az 4 [PV.ref d,PV.tup (js.map PV.str)]=[some (.ref d),some (.tup (js.map PV.str)),none,none] from rfl]
 refine al fun N hN=>?_
 walk_at "x"
 refine zT D (by decide) (by decide) fun r S1 r0 r1 D1 O1=>?_
 refine hN _ _ (al fun N hN=>?_)
 walk_at "x"
 simp only[HZ,Ib]
 split
 ·exact k .rest S1 trivial trivial D1 O1
 refine hN _ _ (al fun N hN=>?_)
 walk_at "x"
 simp only[HZ,Ib,HM]
 have pay:wc [.ref d] S1 (fun x S=>Q (.tup [.str "pay",x]) S) dD:=BI D1 fun x y S2 c D2 O2=>k (.pay x y) S2 trivial c D2 (O1.trans O2)
 split
 ·rw[if_pos trivial];exact pay
 split
 ·exact pay
 rename_i hr hz
 refine hN _ _ (al fun N hN=>?_)
 walk_at "x"
 refine zT D1 (by decide) (by decide) fun r2 S2 a0 a1 D2 O2 p hp=>zT (D2.new hp) (by decide) (by decide) fun r3 S3 b0 b1 D3 O3=>?_
 have dp:=D2.free hp
 have hp3:=O3 _ _ (aa (S:=S2) (o:=.lst [.int 1,.int 2,.int (1+r2)])) dp.1 dp.2
 simp only[hp3]
 obtain⟨v,hv,hm⟩:=dN (xs:=[PV.int 1,.int 2,.int (1+r2)]) b0 (by simpa using b1)
 rw[hv]
 obtain⟨m,rfl,m0,m1⟩:∃m,v = .int m/\1<=m/\m<=9:=by
  simp only[HW,Il,Jc]at hm
  rcases hm with rfl|rfl|rfl
  ·exact⟨1,rfl,by omega,by omega⟩
  ·exact⟨2,rfl,by omega,by omega⟩
  ·exact⟨1+r2,rfl,by omega,by omega⟩
 refine hN _ _ ?_
 walk_at "x"
 simp only[HM]
 refine zT D3 (by omega) (by omega) fun r4 S4 c0 c1 D4 O4=>?_
 obtain⟨w,hw,FY⟩:=dN (xs:=js.map PV.str) c0 (by rw[HM];exact c1)
 dsimp only
 rw[hw]
 obtain⟨z,hz,rfl⟩:=ID.mp FY
 exact k (.put z m) S4 trivial ⟨hz,m0,m1⟩ D4 (O1.trans (O2.trans ((AO.new hp).trans (O3.trans O4))))
def B6(d l x:Addr)(S S':ar):Prop:=∀a o,S a=some o->a≠d->a≠l->a≠x->S' a=some o
theorem _root_.L3.AO.x{d l x:Addr}{S S':ar}(h:AO d l S S'):B6 d l x S S':=fun a o e h1 h2 _=>h a o e h1 h2
def B6.trans{d l x:Addr}{S S1 S2:ar}(a:B6 d l x S S1)(b:B6 d l x S1 S2):B6 d l x S S2:=fun y o h h1 h2 h3=>b y o (a y o h h1 h2 h3) h1 h2 h3
def B6.upd{d l x:Addr}{S:ar}{o:SO}:B6 d l x S (zS S x o):=fun y u h h1 h2 h3=>by rw[aj h3];exact h
abbrev eJ(n:Nat)(w:aA):Prop:=∀{S:ar} {d l x:Addr} {js:Vs} {left down:Int} {Q:bF} {E:cz},z9 S d l->S x=some (.lst [.int left])->x≠d->x≠l->js.length < 2 ^ 61->0<=left->left < 2 ^ 61->0<=down->down < n->
  (∀(t:Bd) S' left',t.good js []->(t.dep:Int)<=down+1->0<=left'->(t.size:Int)+left'<=left+1->z9 S' d l->S' x=some (.lst [.int left'])->B6 d l x S S'->Q t.pv S')->w [.ref d,.tup (js.map PV.str),.ref x,.int down] S Q E
def BJ{wd wl rb:aA}(zT:bu wd)(AE:gk wl)(n:Nat)(ih:eJ n rb):eJ (n+1) (Ab 8 (eC wd wl rb)):=by
 intro S d l x js left down Q E D hx hxd Dx hj h0 h1 h2 h3 k
 unfold eC
 refine fT ?_
 rw[show az 8 [PV.ref d,PV.tup (js.map PV.str),PV.ref x,PV.int down]=[some (.ref d),some (.tup (js.map PV.str)),some (.ref x),some (.int down),none,none,none,none] from rfl]
 refine al fun N hN=>?_
 walk_at "x"
 refine zT D (by decide) (by decide) fun r S1 r0 r1 D1 O1=>?_
 have EM:=O1 _ _ hx hxd Dx
 refine hN _ _ (al fun N hN=>?_)
 walk_at "x"
 have a0:AD [PV.int left] 0=some (.int left):=rfl
 simp only[HZ,Ib,EM,a0]
 have lf:wl [.ref d,.tup (js.map PV.str)] S1 Q dD:=AE D1 hj fun t S2 hl hg D2 O2=>k t S2 left hg (by rw[(Bd.An hl).1];omega) h0 (by rw[(Bd.An hl).2];omega) D2 (O2 _ _ EM hxd Dx) (O1.x.trans O2.x)
 split
 ·rw[if_pos trivial];exact lf
 split
 ·rw[if_pos trivial];exact lf
 split
 ·exact lf
 rename_i hd hl hf
 refine hN _ _ (al fun N hN=>?_)
 simp only[bq,aU,ah,v3,c3,lk,oI,dF,Ib]
 have GE:nI [PV.int left].length 0=some 0:=rfl
 split
 ·refine al fun N2 Bf=>?_
  walk_at "x"
  simp only[EM,a0,GE]
  refine Bf _ _ ?_
  walk_at "x"
  refine ih (left:=left - 1) (D1.upd hxd Dx) aa hxd Dx hj (by omega) (by omega) (by omega) (by omega) fun t S2 l2 hg GF q0 q1 D2 FZ O2=>?_
  exact k (.A2 t) S2 l2 hg (by simp only[Bd.dep];omega) q0 (by simp only[Bd.size];omega) D2 FZ (O1.x.trans (B6.upd.trans O2))
 ·refine hN _ _ (al fun N hN=>?_)
  walk_at "x"
  simp only[EM,a0,GE]
  refine hN _ _ (al fun N hN=>?_)
  walk_at "x"
  refine ih (left:=left - 2) (D1.upd hxd Dx) aa hxd Dx hj (by omega) (by omega) (by omega) (by omega) fun ta S2 l2 ga da q0 q1 D2 FZ O2=>?_
  refine hN _ _ (al fun N hN=>?_)
  walk_at "x"
  refine ih (left:=l2) D2 FZ hxd Dx hj q0 (by omega) (by omega) (by omega) fun tb S3 l3 gb db p0 p1 D3 F0 O3=>?_
  have OA:B6 d l x S S3:=O1.x.trans (B6.upd.trans (O2.trans O3))
  refine hN _ _ (al fun N hN=>?_)
  walk_at "x"
  simp only[Ib]
  split
  ·exact k (.zX ta tb) S3 l3 ⟨ga,gb⟩ (by simp only[Bd.dep];omega) p0 (by simp only[Bd.size];omega) D3 F0 OA
  refine hN _ _ (al fun N hN=>?_)
  walk_at "x"
  simp only[HZ,Ib,HM]
  have ei:Q (Bd.A3 ta tb).pv S3:=k (.A3 ta tb) S3 l3 ⟨ga,gb⟩ (by simp only[Bd.dep];omega) p0 (by simp only[Bd.size];omega) D3 F0 OA
  split
  ·rw[if_pos trivial];exact ei
  split
  ·exact ei
  rename_i hz8 hz
  refine hN _ _ (al fun N hN=>?_)
  walk_at "x"
  refine zT D3 (by decide) (by decide) fun r2 S4 e0 e1 D4 O4 p hp=>zT (D4.new hp) (by decide) (by decide) fun r3 S5 b0 b1 D5 O5=>?_
  have dp:=D4.free hp
  have hp3:=O5 _ _ (aa (S:=S4) (o:=.lst [.int 1,.int 1,.int 2,.int (1+r2)])) dp.1 dp.2
  simp only[hp3]
  obtain⟨v,hv,hm⟩:=dN (xs:=[PV.int 1,.int 1,.int 2,.int (1+r2)]) b0 (by simpa using b1)
  rw[hv]
  obtain⟨m,rfl,m0,m1⟩:∃m,v = .int m/\1<=m/\m<=9:=by
   simp only[HW,Il,Jc]at hm
   rcases hm with rfl|rfl|rfl|rfl
   ·exact⟨1,rfl,by omega,by omega⟩
   ·exact⟨1,rfl,by omega,by omega⟩
   ·exact⟨2,rfl,by omega,by omega⟩
   ·exact⟨1+r2,rfl,by omega,by omega⟩
  refine hN _ _ ?_
  walk_at "x"
  simp only[HM]
  refine zT D5 (by omega) (by omega) fun r4 S6 c0 c1 D6 O6=>?_
  obtain⟨w,hw,FY⟩:=dN (xs:=js.map PV.str) c0 (by rw[HM];exact c1)
  dsimp only
  rw[hw]
  obtain⟨z,hz,rfl⟩:=ID.mp FY
  have F1:=O4 _ _ F0 hxd Dx
  have Hm:x≠p:=fun e=>by rw[e,hp]at F1;cases F1
  have Hn:=O6 _ _ (O5 _ _ (show zS S4 p _ x=some (.lst [.int l3]) by rw[aj Hm];exact F1) hxd Dx) hxd Dx
  exact k (.AR z m ta tb) S6 l3 ⟨hz,m0,m1,ga,gb⟩ (by simp only[Bd.dep];omega) p0 (by simp only[Bd.size];omega) D6 Hn (OA.trans (O4.x.trans ((AO.new hp).x.trans (O5.x.trans O6.x))))
end C
local macro_rules | `(tactic| walk_at "w")=>`(tactic| simp only [L3.af,L3.aq,L3.ay,L3.aY,L3.bq,L3.aN,L3.ah,L3.v3,L3.c3,L3.lk,L3.ap,L3.am,L3.ad,L3.d9,L3.aU,L3.jF,L3.lm,L3.pU,L3.bD,L3.jG,L3.j1,L3.n5,L3.kM,L3.n_,L3.je,L3.aB,L3.bm,L3.fz,L3.bI,L3.ag,L3.gL,L3.bf,L3.kK,L3.jH,L3.kL,L3.dF,L3.fq,L3.b3,L3.fi,L3.iq,L3.qp,L3.oI,L3.ms,L3.xk,L3.bg,L3.tU,L3.aP,L3.iF,L3.bP,L3.i6,L3.aQ,L3.iE,List.set_cons_zero,List.set_cons_succ,List.set_nil,L3.mo,L3.gP,L3.lq,L3.aR,L3.a_,L3.cj,L3.cV,L3.dG,L3.Tg.put,L3.Tg.zV,L3.qe,L3.jg,L3.fD,L3.lv,L3.jI,L3.cI,L3.aZ,L3.bT,List.reduceReplicate,Io,Jb,List.cons_append,List.nil_append,L3.fu,L3.jk,L3.ya,L3.zL,L3.vG,L3.vH,L3.vI,L3.vJ,L3.vK,L3.vL,L3.vM,L3.vN,L3.vO,L3.aF,String.reduceEq,Jp,K3,HZ,Jw,Lb,JK,IV,IP,Ie,reduceIte,ite_true,ite_false])
local macro_rules | `(tactic| walk_at "y")=>`(tactic| ((try walk_at "x"); (try walk_at "w")))
namespace C
open PySem L2 L3 Wd
noncomputable def Bd.zU:Bd->Nat
 | .zX a b=>a.zU * b.zU
 | .A3 a b=>a.zU+b.zU
 | .AR _ _ a b=>a.zU+b.zU
 |_=>1
noncomputable def Bd.zW:Bd->Nat
 | .A2 a=>a.zU+a.zW
 | .zX a b=>a.zW+b.zW
 | .A3 a b=>a.zW+b.zW
 | .AR _ _ a b=>a.zW+b.zW
 |_=>0
def Bd.size_pos(t:Bd):1<=t.size:=by cases t<;>simp[Bd.size]
theorem Bd.Az:∀t:Bd,t.zU<=2 ^ t.size
 | .rest=>by simp[Bd.zU,Bd.size]
 | .pay _ _=>by simp[Bd.zU,Bd.size]
 | .put _ _=>by simp[Bd.zU,Bd.size]
 | .use _=>by simp[Bd.zU,Bd.size]
 | .A2 a=>by simp only[Bd.zU,Bd.size];exact Nat.one_le_two_pow
 | .zX a b=>by
  simp only[Bd.zU,Bd.size]
  refine Ik (Nat.mul_le_mul a.Az b.Az) ?_
  rw[<-Nat.pow_add]
  exact Jz (by decide) (by omega)
 | .A3 a b=>by
  simp only[Bd.zU,Bd.size]
  have h1:2 ^ a.size<=2 ^ (a.size+b.size):=Jz (by decide) (by omega)
  have h2:2 ^ b.size<=2 ^ (a.size+b.size):=Jz (by decide) (by omega)
  have:=a.Az
  have:=b.Az
  rw[Nat.pow_succ]
  omega
 | .AR _ _ a b=>by
  simp only[Bd.zU,Bd.size]
  have h1:2 ^ a.size<=2 ^ (a.size+b.size):=Jz (by decide) (by omega)
  have h2:2 ^ b.size<=2 ^ (a.size+b.size):=Jz (by decide) (by omega)
  have:=a.Az
  have:=b.Az
  rw[Nat.pow_succ]
  omega
def Bd.C4{t:Bd}(h:t.size<=60):(t.zU:Int) < 2 ^ 64:=by
 have h1:=t.Az
 have h2:2 ^ t.size<=2 ^ 60:=Jz (by decide) h
 omega
abbrev b8(n:Nat)(w:aA):Prop:=∀{S:ar} {t:Bd} {Q:bF} {E:cz},t.dep<=n->t.size<=60->Q (.int t.zU) S->w [t.pv] S Q E
def ox{s0:aA}(n:Nat)(ih:b8 n s0):b8 (n+1) (Ab 1 (bU s0)):=by
 intro S t Q E hd hs k
 unfold bU
 refine fT ?_
 rw[show az 1 [t.pv]=[some t.pv] from rfl]
 cases t with
 |zX a b=>
  simp only[Bd.dep,Bd.size]at hd hs
  simp only[Bd.pv]
  walk_at "w"
  refine ih (by omega) (by omega) (ih (by omega) (by omega) ⟨vD (by omega) (Bd.C4 (by omega)),?_⟩)
  simpa [Bd.zU]using k
 |A3 a b=>
  simp only[Bd.dep,Bd.size]at hd hs
  simp only[Bd.pv]
  walk_at "w"
  refine ih (by omega) (by omega) (ih (by omega) (by omega) ?_)
  simpa [Bd.zU]using k
 |AR z m a b=>
  simp only[Bd.dep,Bd.size]at hd hs
  simp only[Bd.pv]
  walk_at "w"
  refine ih (by omega) (by omega) (ih (by omega) (by omega) ?_)
  simpa [Bd.zU]using k
 |_=>
  simp only[Bd.pv]
  walk_at "w"
  exact k
abbrev dO(n:Nat)(w:aA):Prop:=∀{S:ar} {t:Bd} {Q:bF} {E:cz},t.dep<=n->t.size<=60->Q (.int t.zW) S->w [t.pv] S Q E
def dB:∀y∈(["then","either","take"]:Vs),PyData.strOk y=true:=by decide +kernel
def gm:∀y∈(["rest","pay","put","use","often","then","either","take"]:Vs),PyData.strOk y=true:=by decide +kernel
def oy{x0 s0:aA}(n m:Nat)(hp:b8 m x0)(ih:dO n s0)(hnm:n<=m):dO (n+1) (Ab 1 (bK x0 s0)):=by
 intro S t Q E hd hs k
 unfold bK
 refine fT ?_
 rw[show az 1 [t.pv]=[some t.pv] from rfl]
 have e3:[PV.str "then",PV.str "either",PV.str "take"]=(["then","either","take"]:Vs).map PV.str:=rfl
 cases t with
 |A2 a=>
  simp only[Bd.dep,Bd.size]at hd hs
  simp only[Bd.pv]
  walk_at "y"
  refine hp (by omega) (by omega) (ih (by omega) (by omega) ?_)
  simpa [Bd.zW]using k
 |zX a b=>
  simp only[Bd.dep,Bd.size]at hd hs
  simp only[Bd.pv]
  walk_at "y"
  rw[e3]
  refine bE (gm _ (by simp)) dB ?_
  simp[aF]
  refine ih (by omega) (by omega) (ih (by omega) (by omega) ?_)
  simpa [Bd.zW]using k
 |A3 a b=>
  simp only[Bd.dep,Bd.size]at hd hs
  simp only[Bd.pv]
  walk_at "y"
  rw[e3]
  refine bE (gm _ (by simp)) dB ?_
  simp[aF]
  refine ih (by omega) (by omega) (ih (by omega) (by omega) ?_)
  simpa [Bd.zW]using k
 |AR z m a b=>
  simp only[Bd.dep,Bd.size]at hd hs
  simp only[Bd.pv]
  walk_at "y"
  rw[e3]
  refine bE (gm _ (by simp)) dB ?_
  simp[aF]
  refine ih (by omega) (by omega) (ih (by omega) (by omega) ?_)
  simpa [Bd.zW]using k
 |_=>
  simp only[Bd.pv]
  walk_at "y"
  rw[e3]
  refine bE (gm _ (by simp)) dB ?_
  simp[aF]
  simpa [Bd.zW]using k
abbrev dP(w:aA):Prop:=∀{S:ar} {d l:Addr} {js:Vs} {size bound:Int} {Q:bF} {E:cz},z9 S d l->js.length < 2 ^ 61->1<=size->size<=60->
  (∀(t:Bd) S',t.good js []->t.dep<=6->t.size<=60->(t.size:Int)<=max size 4->((t.zU:Int)+t.zW<=bound\/(t.zU:Int)+t.zW<=2)->z9 S' d l->AO d l S S'->Q t.pv S')->w [.ref d,.tup (js.map PV.str),.int size,.int bound] S Q E
def kR{x0 x1 x2 x3:aA}(n:Nat)(hn:6<=n)(BJ:eJ n x0)(EN:b8 n x1)(Dj:dO n x2)(AE:gk x3):dP (Ab 5 (b7 x0 x1 x2 x3)):=by
 intro S d l js size bound Q E D hj h1 h2 k
 unfold b7
 refine fT ?_
 rw[show az 5 [PV.ref d,PV.tup (js.map PV.str),PV.int size,PV.int bound]=[some (.ref d),some (.tup (js.map PV.str)),some (.int size),some (.int bound),none] from rfl]
 refine al fun N hN=>?_
 walk_at "x"
 intro p hp
 have dp:=D.free hp
 refine BJ (D.new hp) aa dp.1 dp.2 hj (by omega) (by omega) (by decide) (by omega) fun t S1 l1 hg hd q0 q1 D1 EM O1=>?_
 have GG:AO d l S S1:=fun a o ha h1 h2=>O1 a o (by rw[aj (fun e=>by rw[e,hp]at ha;cases ha)];exact ha) h1 h2 (fun e=>by rw[e,hp]at ha;cases ha)
 refine hN _ _ (al fun N hN=>?_)
 simp only[bq,aU,ah,ad,ap,v3,lk,List.set_cons_zero,List.set_cons_succ,ms,aP,dF]
 refine EN (by omega) (by omega) (Dj (by omega) (by omega) ?_)
 simp only[Ib]
 split
 ·walk_at "x"
  refine AE D1 hj fun t2 S2 hl2 DC D2 O2=>AE D2 hj fun t3 S3 hl3 Ho D3 O3=>?_
  refine hN _ _ ?_
  walk_at "x"
  have e2:=Bd.An hl2
  have e3:=Bd.An hl3
  refine k (.zX (.A2 t2) t3) S3 ⟨DC,Ho⟩ (by simp only[Bd.dep];omega) (by simp only[Bd.size];omega) (by simp only[Bd.size];omega) (.inr ?_) D3 (GG.trans (O2.trans O3))
  have c2:t2.zU=1/\t2.zW=0:=by cases t2<;>first|exact⟨rfl,rfl⟩|exact hl2.elim
  have c3:t3.zU=1/\t3.zW=0:=by cases t3<;>first|exact⟨rfl,rfl⟩|exact hl3.elim
  simp only[Bd.zU,Bd.zW,c2,c3]
  decide
 ·rename_i hb
  walk_at "x"
  refine hN _ _ ?_
  walk_at "x"
  exact k t S1 hg (by omega) (by omega) (by omega) (.inl (by omega)) D1 GG
noncomputable def dQ(p:Str×Bd):PV:=.tup [.str p.1,p.2.pv]
noncomputable def Av(js:Vs)(ds:List (Str×Bd)):PV:=.tup [.tup (js.map PV.str),.tup (ds.map dQ)]
structure xB (js:Vs) (us:Vs) (ds:List (Str×Bd)):Prop where
 jl:js.length<=16
 dl:ds.length<=16
 jw:∀z∈js,Ch z
 uw:∀z∈us,Ch z
 dw:∀p∈ds,Ch p.1
 gd:∀p∈ds,p.2.good js us
 dp:∀p∈ds,p.2.dep<=60
 sz:∀p∈ds,p.2.size<=60
def _root_.L3.Ext.put{p:Addr}{S S':ar}{o:SO}(O:Ext S S')(h:S p=none):Ext S (zS S' p o):=fun x u hx=>by rw[aj (fun e=>by rw[e,h]at hx;cases hx)];exact O x u hx
def jq{α:Type}{xs:List α}{n:Nat}(h:n<=xs.length):dg xs none (some (n:Int))=xs.take n:=by
 unfold dg
 rw[HT.iT,HT.mQ,List.drop_zero,Nat.min_eq_left h]
 rfl
def vP{α:Type}{xs:List α}{n:Nat}(h:n<=xs.length):dg xs (some (n:Int)) none=xs.drop n:=by
 unfold dg
 rw[HT.iT,HT.mQ,Nat.min_eq_left h,J6]
 rw[IQ]
 exact HU _
def ng{x:PV}{n:Nat}{a b:List PV}(e:br 0 n=a++x::b):x = .int a.length/\a.length < n:=by
 have h1:(br 0 n)[a.length]?=some x:=by rw[e];simp
 unfold br at h1
 rw[HY]at h1
 have hl:a.length < n:=by
  have:=I9 List.length e
  rw[cO,HL,Ih]at this
  omega
 rw[Kw hl]at h1
 simp at h1
 exact⟨h1.symm,hl⟩
def jt{α:Type}{xs:List α}{n:Nat}{v:α}(h:xs[n]?=some v):AD xs (n:Int)=some v:=cw h
noncomputable def Bd.sides:Bd->List Bd
 | .A2 a=>[a]
 | .zX a b=>[a,b]
 | .A3 a b=>[a,b]
 | .AR _ _ a b=>[a,b]
 |_=>[]
noncomputable def Bd.parts:Bd->List Bd
 | .A2 a=>.A2 a::a.parts
 | .zX a b=>.zX a b::(a.parts++b.parts)
 | .A3 a b=>.A3 a b::(a.parts++b.parts)
 | .AR z m a b=>.AR z m a b::(a.parts++b.parts)
 |t=>[t]
def Bd.Cz(t:Bd):t.parts=t::t.sides.flatMap Bd.parts:=by cases t<;>simp[Bd.parts,Bd.sides]
theorem Bd.Ah:∀t:Bd,t.parts.length=t.size
 | .rest=>rfl
 | .pay _ _=>rfl
 | .put _ _=>rfl
 | .use _=>rfl
 | .A2 a=>by simp only[Bd.parts,Bd.size,List.length_cons,a.Ah]
 | .zX a b=>by simp only[Bd.parts,Bd.size,List.length_cons,HL,a.Ah,b.Ah]
 | .A3 a b=>by simp only[Bd.parts,Bd.size,List.length_cons,HL,a.Ah,b.Ah]
 | .AR _ _ a b=>by simp only[Bd.parts,Bd.size,List.length_cons,HL,a.Ah,b.Ah]
def Bd.CA{t u:Bd}(h:u∈t.sides):u.dep < t.dep/\u.size < t.size:=by
 cases t<;>simp[Bd.sides]at h
 ·subst h;simp[Bd.dep,Bd.size]
 all_goals (rcases h with rfl|rfl<;>simp only[Bd.dep,Bd.size]<;>omega)
abbrev eZ(w:aA):Prop:=∀{S:ar} {t:Bd} {Q:bF} {E:cz},Q (.tup (t.sides.map Bd.pv)) S->w [t.pv] S Q E
def Bs:eZ (Ab 1 fF):=by
 intro S t Q E k
 unfold fF
 refine fT ?_
 rw[show az 1 [t.pv]=[some t.pv] from rfl]
 cases t<;>(unfold Bd.pv;walk_at "y"; simp only[m6,ah,v3,lk,c3,ag,fu,gL,am,ap,bP,k_SIDES_FROM,List.find?,sS,String.reduceEq,Jp,K3,Option.map,Option.getD];exact k)
abbrev cY(n:Nat)(w:aA):Prop:=∀{S:ar} {t:Bd} {Q:bF} {E:cz},t.dep<=n->t.size<=900->(∀p S',S p=none->Ext S S'->S' p=some (.lst (t.parts.map Bd.pv))->Q (.ref p) S')->w [t.pv] S Q E
def B7{xs s0:aA}(Bs:eZ xs)(n:Nat)(ih:cY n s0):cY (n+1) (Ab 3 (fG xs s0)):=by
 intro S t Q E hd hs k
 unfold fG
 refine fT ?_
 rw[show az 3 [t.pv]=[some t.pv,none,none] from rfl]
 refine al fun N hN=>?_
 walk_at "x"
 intro p hp
 have X0:Ext S (zS S p (.lst [t.pv])):=.new hp
 have hp0:(zS S p (.lst [t.pv])) p=some (.lst [t.pv]):=aa
 generalize zS S p (.lst [t.pv])=S0 at X0 hp0
 refine hN _ _ (al fun N hN=>?_)
 simp only[cV,a_,ad,ap,v3,lk]
 refine Bs ?_
 simp only[cj]
 refine b_ (fun done σ S'=>∃(ts:List Bd) (x:Option PV) (rs:List Bd),done=ts.map Bd.pv/\t.sides=ts++rs/\σ=[some t.pv,some (.ref p),x]/\Ext S S'/\S' p=some (.lst ((t::ts.flatMap Bd.parts).map Bd.pv))) ⟨[],_,t.sides,rfl,rfl,rfl,X0,hp0⟩ (fun _ _ _ _=>trivial) ?_ ?_
 ·rintro done x rest σ S1 K e ⟨ts,y,rs,rfl,es,rfl,X1,h1⟩ hK
  rw[es,Iz]at e
  have e2:=List.append_cancel_left e
  rcases rs with _|⟨r,rs⟩
  ·cases e2
  rw[Io,List.cons.injEq]at e2
  obtain⟨rfl,e3⟩:=e2
  have hr:r∈t.sides:=by rw[es];simp
  have hrd:=Bd.CA hr
  walk_at "x"
  refine⟨by rw[h1];trivial,ih (t:=r) (by omega) (by omega) fun q S2 hq X2 h2=>?_⟩
  simp only[X2 _ _ h1,h2]
  have hlen:(t::ts.flatMap Bd.parts).length+r.parts.length<=t.size:=by
   rw[<-Bd.Ah t,Bd.Cz t,es,JF,List.flatMap_cons]
   simp only[List.length_cons,HL]
   omega
  refine⟨cx (by simp only[HM]at *;omega),?_⟩
  refine hK _ _ ⟨ts++[r],_,rs,by simp,by rw[es];simp,rfl,(X1.trans X2).put hp,?_⟩
  rw[aa,JF]
  simp
 ·rintro σ S1 ⟨ts,y,rs,e,es,rfl,X1,h1⟩
  refine hN _ _ ?_
  walk_at "x"
  have ez:rs=[]:=by
   have:=I9 List.length e
   rw[es]at this
   simp at this
   exact this
  subst ez
  rw[Iw]at es
  rw[<-es,<-Bd.Cz]at h1
  exact k p S1 hp X1 h1
noncomputable def heads:List Str:=["rest","pay","put","use","often","then","either","take"]
def oz:∀z∈heads,PyData.strOk z=true:=by decide +kernel
structure Bx (n:Nat) (js us:Vs) (ds:List (Str×Bd)):Prop extends xB js us ds where
 jn:js.Nodup
 dn:(ds.map Prod.fst).Nodup
 dq:∀p∈ds,p.2.dep<=n
def eL{xs:List PV}{x:PV}{a b:List PV}(e:L3.aJ xs=a++x::b):∃y,x = .tup [.int a.length,y]/\xs[a.length]?=some y:=by
 have h1:(L3.aJ xs)[a.length]?=some x:=by rw[e];simp
 unfold L3.aJ at h1
 rw[Kn]at h1
 cases h:xs[a.length]? with
 |none=>rw[h]at h1;cases h1
 |some y=>
  rw[h]at h1
  simp only[Option.map_some,Ls]at h1
  exact⟨y,h1.symm,rfl⟩
inductive DG (L:Nat):Nat->PV->Prop
 |int {n:Nat} (i:Int):DG L n (.int i)
 |tup {n:Nat} {xs:List PV}:xs.length<=L->(∀x∈xs,DG L n x)->DG L (n+1) (.tup xs)
def DG.mono{L M n m:Nat}{v:PV}(h:DG L n v)(hL:L<=M):n<=m->DG M m v:=by
 induction h generalizing m with
 |int i=>exact fun _=>.int i
 |@tup n xs hl _ ih=>
  intro hm
  cases m with
  |zero=>omega
  |succ m=>exact .tup (Ik hl hL) fun x hx=>ih x hx (by omega)
noncomputable def Bd.hd:Bd->Str
 | .rest=>"rest" | .pay _ _=>"pay" | .put _ _=>"put" | .use _=>"use" | .A2 _=>"often" | .zX _ _=>"then" | .A3 _ _=>"either" | .AR _ _ _ _=>"take"
noncomputable def Bd.tl:Bd->List PV
 | .rest=>[] | .pay x y=>[.tup [.int x,.int y]] | .put z m=>[.str z,.int m] | .use z=>[.str z] | .A2 a=>[a.pv] | .zX a b=>[a.pv,b.pv] | .A3 a b=>[a.pv,b.pv] | .AR z m a b=>[.str z,.int m,a.pv,b.pv]
def Bd.BU(t:Bd):t.pv = .tup (.str t.hd::t.tl):=by cases t<;>rfl
def Bd.Cd(t:Bd):PyData.strOk t.hd=true:=by cases t<;>exact oz _ (by simp[heads,Bd.hd])
def Bd.Ek(t:Bd):t.hd=("often":Str)↔∃a,t = .A2 a:=by cases t<;>simp[Bd.hd,aF]
def kS:([PV.str "then",PV.str "either",PV.str "take"]:List PV)=(["then","either","take"]:Vs).map PV.str:=rfl
def e7{a b:PV}{hd:List PV}{i:Int}(hi:i=0\/i=1):AD (hd++[a,b]) (i - 2)=some (if i=0 then a else b):=by
 unfold AD nI
 rcases hi with rfl|rfl
 ·rw[if_neg (by omega),if_pos (by simp;omega)]
  have:(0 - 2+((hd++[a,b]).length:Int)).toNat=hd.length:=by simp;omega
  rw[this,if_pos rfl]
  show(hd++[a,b])[hd.length]?=some a
  simp
 ·rw[if_neg (by omega),if_pos (by simp;omega)]
  have:(1 - 2+((hd++[a,b]).length:Int)).toNat=hd.length+1:=by simp;omega
  rw[this,if_neg (by decide)]
  show(hd++[a,b])[hd.length+1]?=some b
  simp
abbrev fL(w:aA):Prop:=∀{S:ar} {d l:Addr} {most many size:Nat} {Q:bF} {E:cz},z9 S d l->most<=8->1<=many->many<=4->1<=size->size<=60->
  (∀js ds S',Bx 6 js [] ds->1<=ds.length->ds.length<=many->js.length<=8->z9 S' d l->AO d l S S'->Q (Av js ds) S')->w [.ref d,.int most,.int many,.int size] S Q E
def oA{xw xd xb:aA}(AQ:dA xw)(zT:bu xd)(EO:dP xb):fL (Ab 9 (dI xw xd xb)):=by
 intro S0 d l most many size Q E D0 hmo hm1 hm4 hs1 hs2 k
 unfold dI
 refine fT ?_
 rw[show az 9 [PV.ref d,PV.int most,PV.int many,PV.int size]=[some (.ref d),some (.int most),some (.int many),some (.int size),none,none,none,none,none] from rfl]
 refine al fun N hN=>?_
 walk_at "x"
 refine AQ D0 (by decide) (by decide) fun p ns S hl hnd hw0 _ Cj hpl hp D O0=>?_
 have hl8':ns.length=8:=hl
 have Hq:8<=ns.length:=by omega
 have GH:ns.length<=100:=by omega
 have hw:∀z∈ns,Ch z:=fun z hz=>(hw0 z hz).1
 refine hN _ _ ?_
 refine al fun N hN=>?_
 walk_at "x"
 refine zT (m:=most+1) D (by omega) (by omega) fun r S1 r0 r1 D1 O1=>?_
 obtain⟨j,rfl⟩:∃j:Nat,r=(j:Int):=⟨r.toNat,by omega⟩
 have hp1:=O1 _ _ hp Cj hpl
 rw[hp1]
 dsimp only
 rw[jq (by rw[HM];omega),<-Kd]
 intro p2 hp2
 rw[aa]
 dsimp only
 have D2:z9 (zS S1 p2 (.lst ((ns.take j).map PV.str))) d l:=D1.new hp2
 have O2:AO d l S (zS S1 p2 (.lst ((ns.take j).map PV.str))):=O1.trans (.new hp2)
 have hp2':=AO.new (o:=.lst ((ns.take j).map PV.str)) hp2 _ _ hp1 Cj hpl
 generalize zS S1 p2 (.lst ((ns.take j).map PV.str))=S2 at D2 O2 hp2'
 refine hN _ _ (al fun N hN=>?_)
 walk_at "x"
 intro p3 hp3
 have EQ:=D2.free hp3
 refine zT (D2.new hp3) (by decide) (by decide) fun f S3 f0 f1 D3 O3=>?_
 have e3:=O3 _ _ (aa (S:=S2) (o:=.lst [.int 0,.int 4])) EQ.1 EQ.2
 have El:=O3 _ _ (AO.new hp3 _ _ hp2' Cj hpl) Cj hpl
 have Hr:AO d l S S3:=O2.trans ((AO.new hp3).trans O3)
 simp only[e3]
 obtain⟨v,hv,ER⟩:=dN (xs:=[PV.int 0,.int 4]) f0 (by simpa using f1)
 rw[hv]
 obtain⟨g,rfl,hg⟩:∃g:Nat,v = .int g/\g<=4:=by
  simp only[HW,Il,Jc]at ER
  rcases ER with rfl|rfl
  ·exact⟨0,rfl,by omega⟩
  ·exact⟨4,rfl,by omega⟩
 refine hN _ _ (al fun N hN=>?_)
 walk_at "x"
 refine zT (m:=many) D3 (by omega) (by omega) fun r4 S4 a0 a1 D4 O4=>?_
 obtain⟨mm,em⟩:∃mm:Nat,1+r4=(mm:Int):=⟨(1+r4).toNat,by omega⟩
 dsimp only
 rw[em]
 have C5:=O4 _ _ El Cj hpl
 refine hN _ _ (al fun N hN=>?_)
 walk_at "x"
 refine⟨by omega,by omega,?_⟩
 rw[JS]
 have hjl:(ns.take j).length<=8:=by rw[IG];omega
 refine bV (fun done ys S'=>∃ds:List (Str×Bd),ys=ds.map dQ/\ds.length=done.length/\ds.map Prod.fst=(ns.drop g).take done.length/\done.length<=mm/\(∀q∈ds,q.2.good (ns.take j) []/\q.2.dep<=6/\q.2.size<=60)/\z9 S' d l/\AO d l S4 S') ⟨[],rfl,rfl,rfl,IA _,by simp,D4,.refl⟩ ?_ ?_ ?_
 ·rintro done ys S' ⟨ds,rfl,e,_,hd,_⟩
  exact⟨trivial,cx (by rw[HM,e];omega)⟩
 ·rintro done x rest ys S' K e ⟨ds,rfl,e2,e3,hd,hc,D',O'⟩ hK
  obtain⟨rfl,hi⟩:=ng e
  walk_at "x"
  try simp only[bQ,IV]
  have hp':=O' _ _ C5 Cj hpl
  simp only[hp']
  have hlt:g+done.length < ns.length:=by omega
  have hat:AD (ns.map PV.str) ((g:Int)+(done.length:Int))=some (.str ns[g+done.length]):=by
   have:((g:Int)+(done.length:Int))=((g+done.length:Nat):Int):=by omega
   rw[this]
   exact jt (by rw[HY,Ig hlt];rfl)
  rw[hat]
  dsimp only
  refine⟨xz (by omega) (by omega),EO D' (by omega) (by omega) (by omega) fun t S5 tg td tz tz2 _ D5 F2=>?_⟩
  refine hK _ _ ⟨ds++[(ns[g+done.length],t)],by simp[dQ],by simp[e2],?_,by rw[HL];exact hi,fun y hy=>?_,D5,O'.trans F2⟩
  ·rw[Iz,e3,HL,HX,JL,Ln,Ig hlt]
   rfl
  ·rcases HV.mp hy with hy|hy
   ·exact hc y hy
   ·rw[Ij.mp hy];exact⟨tg,td,tz⟩
 rintro ys S5 ⟨ds,rfl,e,ef,_,hds,D5,O5⟩
 rw[cO]at e ef
 intro p6 F3
 refine hN _ _ ?_
 walk_at "x"
 rw[aa]
 dsimp only
 have sub:∀q∈ds,q.1∈ns:=fun q hq=>by
  have:q.1∈ds.map Prod.fst:=ID.mpr ⟨q,hq,rfl⟩
  rw[ef]at this
  exact Km (IW this)
 refine k (ns.take j) ds _ ⟨⟨by omega,by omega,fun z hz=>hw z (IW hz),by simp,fun q hq=>hw _ (sub q hq),fun q hq=>(hds q hq).1,fun q hq=>by have:=(hds q hq).2.1;omega,fun q hq=>(hds q hq).2.2⟩,hnd.sublist (Lq _ _),by rw[ef];exact hnd.sublist ((Lq _ _).trans (List.drop_sublist _ _)),fun q hq=>(hds q hq).2.1⟩ (by omega) (by omega) hjl (D5.new F3) (O0.trans (Hr.trans (O4.trans (O5.trans (.new F3)))))
noncomputable def Bd.z_:Bd->Bool
 | .rest=>false
 | .zX _ _=>false
 |_=>true
abbrev fM(w:aA):Prop:=∀{S:ar} {t:Bd} {Q:bF} {E:cz},Q (.bl t.z_) S->w [t.pv] S Q E
def xC:∀z∈(["rest","then"]:Vs),PyData.strOk z=true:=by decide +kernel
def Bd.C6(t:Bd):(true != decide (t.hd∈(["rest","then"]:Vs)))=t.z_:=by cases t<;>simp[Bd.hd,aF,Bd.z_]
def oB:fM (Ab 1 gS):=by
 intro S t Q E k
 unfold gS
 refine fT ?_
 rw[show az 1 [t.pv]=[some t.pv] from rfl,Bd.BU]
 simp only[ay,ah,v3,lk,c3,ag,fu,aB,ap]
 rw[show([PV.str "rest",PV.str "then"]:List PV)=(["rest","then"]:Vs).map PV.str from rfl]
 refine bE (Bd.Cd t) xC ?_
 rw[Bd.C6]
 exact k
noncomputable def Bd.BE:Bd->PV
 | .zX a b=>.tup [a.BE,b.BE]
 | .A3 a _=>.tup [.int 0,a.BE]
 | .AR _ _ _ b=>.tup [.int 1,b.BE]
 |_=>.tup []
abbrev e8(n:Nat)(w:aA):Prop:=∀{S:ar} {t:Bd} {Q:bF} {E:cz},t.dep<=n->Q t.BE S->w [t.pv] S Q E
def qC{s0:aA}(n:Nat)(ih:e8 n s0):e8 (n+1) (Ab 1 (dh s0)):=by
 intro S t Q E hd k
 unfold dh
 refine fT ?_
 rw[show az 1 [t.pv]=[some t.pv] from rfl]
 cases t with
 |zX a b=>
  simp only[Bd.dep]at hd
  rw[show(Bd.zX a b).pv = .tup [.str "then",a.pv,b.pv] from rfl]
  walk_at "y"
  refine ih (by omega) ?_
  exact ih (by omega) k
 |A3 a b=>
  simp only[Bd.dep]at hd
  rw[show(Bd.A3 a b).pv = .tup [.str "either",a.pv,b.pv] from rfl]
  walk_at "y"
  exact ih (by omega) k
 |AR z m a b=>
  simp only[Bd.dep]at hd
  rw[show(Bd.AR z m a b).pv = .tup [.str "take",.str z,.int m,a.pv,b.pv] from rfl]
  walk_at "y"
  exact ih (by omega) k
 |A2 a=>
  rw[show(Bd.A2 a).pv = .tup [.str "often",a.pv] from rfl]
  walk_at "y"
  exact k
 |rest=>
  rw[show(Bd.rest).pv = .tup [.str "rest"] from rfl]
  walk_at "y"
  exact k
 |pay x y=>
  rw[show(Bd.pay x y).pv = .tup [.str "pay",.tup [.int x,.int y]] from rfl]
  walk_at "y"
  exact k
 |put z m=>
  rw[show(Bd.put z m).pv = .tup [.str "put",.str z,.int m] from rfl]
  walk_at "y"
  exact k
 |use z=>
  rw[show(Bd.use z).pv = .tup [.str "use",.str z] from rfl]
  walk_at "y"
  exact k
abbrev gY(n:Nat)(w:aA):Prop:=∀{S:ar} {t:Bd} {Q:bF} {E:cz},t.dep<=n->t.size<=900->(∀S',Ext S S'->Q (.int t.size) S')->w [t.pv] S Q E
def oC{xp:aA}(n:Nat)(B7:cY n xp):gY n (Ab 1 (kP xp)):=by
 intro S t Q E hd hs k
 unfold kP
 refine fT ?_
 rw[show az 1 [t.pv]=[some t.pv] from rfl]
 walk_at "x"
 refine B7 hd hs fun p S1 hp X1 h1=>?_
 simp only[h1,HM,t.Ah]
 exact k S1 X1
noncomputable def Bd.led:Bd->Nat->PV->PV
 |_,0,v=>v
 | .A2 a,p+1,v=>.tup [.tup [.int 1,a.led p v]]
 | .zX a b,p+1,v=>if p < a.size then .tup [a.led p v,b.BE] else .tup [a.BE,b.led (p - a.size) v]
 | .A3 a b,p+1,v=>if p < a.size then .tup [.int 0,a.led p v] else .tup [.int 1,b.led (p - a.size) v]
 | .AR _ _ a b,p+1,v=>if p < a.size then .tup [.int 0,a.led p v] else .tup [.int 1,b.led (p - a.size) v]
 |_,_+1,v=>v
abbrev gq(n:Nat)(w:aA):Prop:=∀{S:ar} {t:Bd} {p:Nat} {v:PV} {Q:bF} {E:cz},t.dep<=n->t.size<=900->p < t.size->(∀S',Ext S S'->Q (t.led p v) S')->w [t.pv,.int p,v] S Q E
def sR{xp xt s0:aA}(n m:Nat)(hm:n<=m)(Em:gY m xp)(DR:e8 m xt)(ih:gq n s0):gq (n+1) (Ab 8 (di xp xt s0)):=by
 intro S t p v Q E hd hs hp k
 unfold di
 refine fT ?_
 rw[show az 8 [t.pv,PV.int p,v]=[some t.pv,some (.int p),some v,none,none,none,none,none] from rfl]
 refine al fun N hN=>?_
 walk_at "x"
 simp only[HZ,Ib]
 cases p with
 |zero=>
  rw[if_pos (show((0:Nat):Int)=0 from rfl)]
  have:=k S .refl
  cases t<;>exact this
 |succ p=>
  rw[if_neg (by omega)]
  refine hN _ _ (al fun N hN=>?_)
  have ep:(((p+1:Nat):Int) - 1)=(p:Int):=by omega
  cases t with
  |A2 a=>
   simp only[Bd.size]at hs hp
   simp only[Bd.dep]at hd
   rw[show(Bd.A2 a).pv = .tup [.str "often",a.pv] from rfl]
   walk_at "y"
   rw[ep]
   exact ih (by omega) (by omega) (by omega) k
  |rest=>simp only[Bd.size]at hp;omega
  |pay=>simp only[Bd.size]at hp;omega
  |put=>simp only[Bd.size]at hp;omega
  |use=>simp only[Bd.size]at hp;omega
  |zX a b=>
   simp only[Bd.size]at hs hp
   simp only[Bd.dep]at hd
   rw[show(Bd.zX a b).pv = .tup [.str "then",a.pv,b.pv] from rfl]
   walk_at "y"
   refine hN _ _ (al fun N hN=>?_)
   walk_at "y"
   refine hN _ _ (al fun N hN=>?_)
   walk_at "y"
   refine hN _ _ (al fun N hN=>?_)
   walk_at "y"
   refine Em (by omega) (by omega) fun S1 X1=>?_
   refine hN _ _ (al fun N hN=>?_)
   walk_at "x"
   by_cases hl:p < a.size
   ·have e1:decide (((p+1:Nat):Int) < 1+(a.size:Int))=true:=IU (by omega)
    rw[e1]
    simp only[IV]
    refine hN _ _ (al fun N hN=>?_)
    walk_at "y"
    rw[ep]
    refine ih (by omega) (by omega) hl fun S2 X2=>?_
    refine hN _ _ (al fun N hN=>?_)
    walk_at "y"
    refine hN _ _ (al fun N hN=>?_)
    walk_at "y"
    refine DR (by omega) ?_
    have:=k S2 (X1.trans X2)
    simp only[Bd.led,if_pos hl]at this
    exact this
   ·have e1:decide (((p+1:Nat):Int) < 1+(a.size:Int))=false:=Iu (by omega)
    rw[e1]
    simp only[Ie,IP]
    refine hN _ _ (al fun N hN=>?_)
    have e2:(((p+1:Nat):Int) - (1+(a.size:Int)))=((p - a.size:Nat):Int):=by omega
    have e4:decide ((1:Int)=0)=false:=by decide
    walk_at "y"
    simp only[e4,Ie,IP]
    rw[e2]
    refine ih (by omega) (by omega) (by omega) fun S2 X2=>?_
    refine hN _ _ (al fun N hN=>?_)
    walk_at "y"
    refine hN _ _ (al fun N hN=>?_)
    walk_at "y"
    simp only[e4,Ie,IP]
    refine hN _ _ ?_
    walk_at "y"
    refine DR (by omega) ?_
    have:=k S2 (X1.trans X2)
    simp only[Bd.led,if_neg hl]at this
    exact this
  |A3 a b=>
   simp only[Bd.size]at hs hp
   simp only[Bd.dep]at hd
   rw[show(Bd.A3 a b).pv = .tup [.str "either",a.pv,b.pv] from rfl]
   walk_at "y"
   refine hN _ _ (al fun N hN=>?_)
   walk_at "y"
   refine hN _ _ (al fun N hN=>?_)
   walk_at "y"
   refine hN _ _ (al fun N hN=>?_)
   walk_at "y"
   refine Em (by omega) (by omega) fun S1 X1=>?_
   refine hN _ _ (al fun N hN=>?_)
   walk_at "x"
   by_cases hl:p < a.size
   ·have e1:decide (((p+1:Nat):Int) < 1+(a.size:Int))=true:=IU (by omega)
    rw[e1]
    simp only[IV]
    refine hN _ _ (al fun N hN=>?_)
    walk_at "y"
    rw[ep]
    refine ih (by omega) (by omega) hl fun S2 X2=>?_
    refine hN _ _ (al fun N hN=>?_)
    walk_at "y"
    have:=k S2 (X1.trans X2)
    simp only[Bd.led,if_pos hl]at this
    exact this
   ·have e1:decide (((p+1:Nat):Int) < 1+(a.size:Int))=false:=Iu (by omega)
    rw[e1]
    simp only[Ie,IP]
    refine hN _ _ (al fun N hN=>?_)
    have e2:(((p+1:Nat):Int) - (1+(a.size:Int)))=((p - a.size:Nat):Int):=by omega
    have e4:decide ((1:Int)=0)=false:=by decide
    walk_at "y"
    simp only[e4,Ie,IP]
    rw[e2]
    refine ih (by omega) (by omega) (by omega) fun S2 X2=>?_
    refine hN _ _ (al fun N hN=>?_)
    walk_at "y"
    have:=k S2 (X1.trans X2)
    simp only[Bd.led,if_neg hl]at this
    exact this
  |AR z q a b=>
   simp only[Bd.size]at hs hp
   simp only[Bd.dep]at hd
   rw[show(Bd.AR z q a b).pv = .tup [.str "take",.str z,.int q,a.pv,b.pv] from rfl]
   walk_at "y"
   refine hN _ _ (al fun N hN=>?_)
   walk_at "y"
   refine hN _ _ (al fun N hN=>?_)
   walk_at "y"
   refine hN _ _ (al fun N hN=>?_)
   walk_at "y"
   refine Em (by omega) (by omega) fun S1 X1=>?_
   refine hN _ _ (al fun N hN=>?_)
   walk_at "x"
   by_cases hl:p < a.size
   ·have e1:decide (((p+1:Nat):Int) < 1+(a.size:Int))=true:=IU (by omega)
    rw[e1]
    simp only[IV]
    refine hN _ _ (al fun N hN=>?_)
    walk_at "y"
    rw[ep]
    refine ih (by omega) (by omega) hl fun S2 X2=>?_
    refine hN _ _ (al fun N hN=>?_)
    walk_at "y"
    have:=k S2 (X1.trans X2)
    simp only[Bd.led,if_pos hl]at this
    exact this
   ·have e1:decide (((p+1:Nat):Int) < 1+(a.size:Int))=false:=Iu (by omega)
    rw[e1]
    simp only[Ie,IP]
    refine hN _ _ (al fun N hN=>?_)
    have e2:(((p+1:Nat):Int) - (1+(a.size:Int)))=((p - a.size:Nat):Int):=by omega
    have e4:decide ((1:Int)=0)=false:=by decide
    walk_at "y"
    simp only[e4,Ie,IP]
    rw[e2]
    refine ih (by omega) (by omega) (by omega) fun S2 X2=>?_
    refine hN _ _ (al fun N hN=>?_)
    walk_at "y"
    have:=k S2 (X1.trans X2)
    simp only[Bd.led,if_neg hl]at this
    exact this
theorem e_{α:Type}{g:Tg}{te:aO}{σ':b5}{keep:ar->Prop}{fin:List PV->ar->Prop}{S:ar}(enc f:α->PV)(hk:keep S):∀(xs:List α) (ys:List PV),
  (∀x∈xs,∃σ2,g.put (enc x) σ'=some σ2/\∀Q:bF,Q (f x) S->te σ2 S Q dD)->ys.length+xs.length<=sizeLine->fin (ys++xs.map f) S->cu g bQ te σ' keep fin (xs.map enc) ys S
 |[],ys,_,hl,hf=>⟨hk,by simpa using hl,by simpa using hf⟩
 |x::r,ys,h,hl,hf=>by
  obtain⟨σ2,e,h1⟩:=h x (by simp)
  refine⟨hk,by simp at hl;omega,?_⟩
  rw[e]
  show te σ2 S (fun y S4=>cu g bQ te σ' keep fin (r.map enc) (ys++[y]) S4) dD
  exact h1 _ (e_ enc f hk r (ys++[f x]) (fun y hy=>h y (by simp[hy])) (by simp at hl ⊢;omega) (by simpa using hf))
def bN{n:Nat}(h:n<=1000):n<=sizeLine:=Ik h (by decide)
noncomputable def qD(js:Vs):PV:=.tup (js.map PV.str)
def Bd.Dk(t:Bd):t.hd=("put":Str)↔∃z m,t = .put z m:=by cases t<;>simp[Bd.hd,aF]
abbrev Qs:=Str->Bool
noncomputable def mq(hs:Vs):Qs:=fun z=>decide (z∈hs)
noncomputable def Bd.shut(q:Qs):Bd->Nat->Bool
 | .AR z _ _ _,0=>!q z
 |_,_=>false
noncomputable def Bd.AI(q:Qs)(t:Bd)(r:Bool):List (Bd×Bool):=t.sides.mapIdx fun i s=>(s,r&&!t.shut q i)
noncomputable def Bd.pr(q:Qs):Bd->Bool->List (Bd×Bool)
 | .rest,r=>[(.rest,r)]
 | .pay x y,r=>[(.pay x y,r)]
 | .put z m,r=>[(.put z m,r)]
 | .use z,r=>[(.use z,r)]
 | .A2 a,r=>(.A2 a,r)::a.pr q r
 | .zX a b,r=>(.zX a b,r)::(a.pr q r++b.pr q r)
 | .A3 a b,r=>(.A3 a b,r)::(a.pr q r++b.pr q r)
 | .AR z m a b,r=>(.AR z m a b,r)::(a.pr q (r&&q z)++b.pr q r)
def Bd.DS(q:Qs)(t:Bd)(r:Bool):t.pr q r=(t,r)::(t.AI q r).flatMap fun p=>p.1.pr q p.2:=by
 cases t with
 |rest=>rfl
 |pay x y=>rfl
 |put z m=>rfl
 |use z=>rfl
 |A2 a=>show _=_::(a.pr q (r&&!false)++[]);rw[JK,Lv,Iw];rfl
 |zX a b=>show _=_::(a.pr q (r&&!false)++(b.pr q (r&&!false)++[]));rw[JK,Lv,Iw];rfl
 |A3 a b=>show _=_::(a.pr q (r&&!false)++(b.pr q (r&&!false)++[]));rw[JK,Lv,Iw];rfl
 |AR z m a b=>show _=_::(a.pr q (r&&!(!q z))++(b.pr q (r&&!false)++[]));rw[Bool.not_not,JK,Lv,Iw];rfl
theorem Bd.AS(q:Qs):∀(t:Bd) (r:Bool),(t.pr q r).length=t.size
 | .rest,_=>rfl
 | .pay _ _,_=>rfl
 | .put _ _,_=>rfl
 | .use _,_=>rfl
 | .A2 a,r=>by show(a.pr q r).length+1=a.size+1;rw[a.AS q r]
 | .zX a b,r=>by show(a.pr q r++b.pr q r).length+1=a.size+b.size+1;rw[HL,a.AS q r,b.AS q r]
 | .A3 a b,r=>by show(a.pr q r++b.pr q r).length+1=a.size+b.size+1;rw[HL,a.AS q r,b.AS q r]
 | .AR z m a b,r=>by show(a.pr q (r&&q z)++b.pr q r).length+1=a.size+b.size+1;rw[HL,a.AS q _,b.AS q r]
noncomputable def Bd.zV(q:Qs):Bd->List Str
 | .rest=>[]
 | .pay _ _=>[]
 | .put z _=>[z]
 | .use _=>[]
 | .A2 a=>a.zV q
 | .zX a b=>a.zV q++b.zV q
 | .A3 a b=>a.zV q++b.zV q
 | .AR z _ a b=>(if q z then a.zV q else [])++b.zV q
theorem Bd.AF(q:Qs):∀(t:Bd) (u:Bd),(u,true) ∉ t.pr q false
 | .rest,u=>by simp[Bd.pr]
 | .pay _ _,u=>by simp[Bd.pr]
 | .put _ _,u=>by simp[Bd.pr]
 | .use _,u=>by simp[Bd.pr]
 | .A2 a,u=>by
  show _ ∉ _::a.pr q false
  rw[HW,not_or];exact⟨by simp,a.AF q u⟩
 | .zX a b,u=>by
  show _ ∉ _::(a.pr q false++b.pr q false)
  rw[HW,not_or,HV,not_or];exact⟨by simp,a.AF q u,b.AF q u⟩
 | .A3 a b,u=>by
  show _ ∉ _::(a.pr q false++b.pr q false)
  rw[HW,not_or,HV,not_or];exact⟨by simp,a.AF q u,b.AF q u⟩
 | .AR z m a b,u=>by
  show _ ∉ _::(a.pr q (false&&q z)++b.pr q false)
  rw[Bool.false_and,HW,not_or,HV,not_or];exact⟨by simp,a.AF q u,b.AF q u⟩
theorem Bd.Ao(q:Qs){z:Str}:∀(t:Bd),z∈t.zV q↔∃m,(Bd.put z m,true)∈t.pr q true
 | .rest=>by simp[Bd.zV,Bd.pr]
 | .pay _ _=>by simp[Bd.zV,Bd.pr]
 | .put y m=>by
  show z∈[y]↔∃n,(Bd.put z n,true)∈[(Bd.put y m,true)]
  simp only[Ij,Prod.mk.injEq,Bd.put.injEq,and_true]
  exact⟨fun h=>⟨m,h,rfl⟩,fun⟨_,h,_⟩=>h⟩
 | .use _=>by simp[Bd.zV,Bd.pr]
 | .A2 a=>by
  show z∈a.zV q↔∃m,(Bd.put z m,true)∈(Bd.A2 a,true)::a.pr q true
  rw[a.Ao q];simp
 | .zX a b=>by
  show z∈a.zV q++b.zV q↔∃m,(Bd.put z m,true)∈(Bd.zX a b,true)::(a.pr q true++b.pr q true)
  rw[HV,a.Ao q,b.Ao q];simp[exists_or]
 | .A3 a b=>by
  show z∈a.zV q++b.zV q↔∃m,(Bd.put z m,true)∈(Bd.A3 a b,true)::(a.pr q true++b.pr q true)
  rw[HV,a.Ao q,b.Ao q];simp[exists_or]
 | .AR y m a b=>by
  show z∈(if q y=true then a.zV q else [])++b.zV q↔∃n,(Bd.put z n,true)∈(Bd.AR y m a b,true)::(a.pr q (true&&q y)++b.pr q true)
  rw[HV,b.Ao q]
  cases h:q y with
  |true=>rw[if_pos rfl,a.Ao q];simp[exists_or]
  |false=>
   rw[if_neg (by decide)]
   have f:=a.AF q
   simp[f]
theorem Bd.Aq{q p:Qs}(h:∀z,q z=true->p z=true){z:Str}:∀t:Bd,z∈t.zV q->z∈t.zV p
 | .rest,e=>e
 | .pay _ _,e=>e
 | .put _ _,e=>e
 | .use _,e=>e
 | .A2 a,e=>a.Aq h e
 | .zX a b,e=>HV.mpr ((HV.mp e).imp (a.Aq h) (b.Aq h))
 | .A3 a b,e=>HV.mpr ((HV.mp e).imp (a.Aq h) (b.Aq h))
 | .AR y m a b,e=>by
  rcases HV.mp (show z∈(if q y=true then a.zV q else [])++b.zV q from e)with e|e
  ·by_cases hq:q y=true
   ·rw[if_pos hq]at e
    exact HV.mpr (.inl (by show z∈(if p y=true then a.zV p else []);rw[if_pos (h y hq)];exact a.Aq h e))
   ·rw[if_neg hq]at e;cases e
  ·exact HV.mpr (.inr (b.Aq h e))
theorem Bd.Ai{q:Qs}{js us:Vs}{z:Str}:∀t:Bd,t.good js us->z∈t.zV q->z∈js
 | .rest,_,e=>by cases e
 | .pay _ _,_,e=>by cases e
 | .put _ _,g,e=>by rw[Ij.mp e];exact g.1
 | .use _,_,e=>by cases e
 | .A2 a,g,e=>a.Ai g e
 | .zX a b,g,e=>(HV.mp e).elim (a.Ai g.1) (b.Ai g.2)
 | .A3 a b,g,e=>(HV.mp e).elim (a.Ai g.1) (b.Ai g.2)
 | .AR y m a b,g,e=>by
  rcases HV.mp (show z∈(if q y=true then a.zV q else [])++b.zV q from e)with e|e
  ·by_cases hq:q y=true
   ·rw[if_pos hq]at e;exact a.Ai g.2.2.2.1 e
   ·rw[if_neg hq]at e;cases e
  ·exact b.Ai g.2.2.2.2 e
noncomputable def Aw(q:Qs)(ds:List (Str×Bd)):List Str:=ds.flatMap fun p=>p.2.zV q
def ju{q p:Qs}(h:∀z,q z=true->p z=true){ds:List (Str×Bd)}{z:Str}(e:z∈Aw q ds):z∈Aw p ds:=by
 obtain⟨d,hd,e⟩:=Ku.mp e
 exact Ku.mpr ⟨d,hd,d.2.Aq h e⟩
inductive Fs (ds:List (Str×Bd)):List Str->Prop
 |nil:Fs ds []
 |snoc {hs:Vs} {z:Str}:Fs ds hs->z∈Aw (mq hs) ds->Fs ds (hs++[z])
noncomputable def held(ds:List (Str×Bd)):Nat->List Str
 |0=>[]
 |n+1=>Aw (mq (held ds n)) ds
theorem gr:∀(hs js:Vs),hs.Nodup->(∀z∈hs,z∈js)->hs.length<=js.length
 |[],_,_,_=>IA _
 |z::r,js,hn,hj=>by
  have hz:=hj z (by simp)
  have h1:=gr r (js.erase z) (Jd.mp hn).2 fun y hy=>(List.mem_erase_of_ne (fun e=>(Jd.mp hn).1 (by rw[<-e];exact hy))).mpr (hj y (by simp[hy]))
  rw[List.length_erase_of_mem hz]at h1
  have:=List.length_pos_of_mem hz
  rw[Ih]
  omega
def nh{a b:Vs}(h:∀z∈a,z∈b)(z:Str)(e:mq a z=true):mq b z=true:=IU (h z (of_decide_eq_true e))
def sU{ds:List (Str×Bd)}{hs:Vs}(h:Fs ds hs):∀k,hs.length<=k->∀z∈hs,z∈held ds k:=by
 induction h with
 |nil=>intro k _ z hz;cases hz
 |@snoc hs y hf hy ih=>
  intro k hk z hz
  rw[HL,HX]at hk
  rcases HV.mp hz with hz|hz
  ·exact ih k (by omega) z hz
  ·rw[Ij.mp hz]
   obtain⟨k,rfl⟩:∃m,k=m+1:=⟨k - 1,by omega⟩
   exact ju (nh (ih k (by omega))) hy
theorem ni{ds:List (Str×Bd)}{hs:Vs}(cl:∀z∈Aw (mq hs) ds,z∈hs):∀k,∀z∈held ds k,z∈hs
 |0,z,hz=>by cases hz
 |k+1,z,hz=>cl z (ju (nh (ni cl k)) hz)
def sV{ds:List (Str×Bd)}{js hs:Vs}(h:Fs ds hs)(hn:hs.Nodup)(hj:∀z∈hs,z∈js)(cl:∀z∈Aw (mq hs) ds,z∈hs):mq (held ds js.length)=mq hs:=by
 funext z
 exact decide_eq_decide.mpr ⟨ni cl _ z,sU h _ (gr hs js hn hj) z⟩
noncomputable def eM(p:Bd×Bool):PV:=.tup [p.1.pv,.bl p.2]
def mC(js:Vs):Prop:=∀z∈js,PyData.strOk z=true
abbrev jv(n:Nat)(w:aA):Prop:=∀{S:ar} {t:Bd} {js us hs:Vs} {nm:Addr} {r:Bool} {Q:bF} {E:cz},t.dep<=n->t.size<=900->t.good js us->mC js->mC hs->S nm=some (.lst (hs.map PV.str))->
  (∀p S',S p=none->Ext S S'->S' p=some (.lst ((t.pr (mq hs) r).map eM))->Q (.ref p) S')->w [t.pv,.ref nm,.bl r] S Q E
def Bd.CL{js us:Vs}{t s:Bd}(g:t.good js us)(h:s∈t.sides):s.good js us:=by
 cases t with
 |rest=>cases h
 |pay x y=>cases h
 |put z m=>cases h
 |use z=>cases h
 |A2 a=>rw[Ij.mp h];exact g
 |zX a b=>
  rcases HW.mp h with rfl|h
  ·exact g.1
  ·rw[Ij.mp h];exact g.2
 |A3 a b=>
  rcases HW.mp h with rfl|h
  ·exact g.1
  ·rw[Ij.mp h];exact g.2
 |AR z m a b=>
  rcases HW.mp h with rfl|h
  ·exact g.2.2.2.1
  ·rw[Ij.mp h];exact g.2.2.2.2
def Bd.En(t:Bd):t.hd=("take":Str)↔∃z m a b,t = .AR z m a b:=by cases t<;>simp[Bd.hd,aF]
def sW{t:Bd}{js us hs:Vs}{nm:Addr}{S:ar}{i:Nat}{x2 x3 x5 x6:Option PV}{Q:bF}(g:t.good js us)(hj:mC js)(hh:mC hs)(hn:S nm=some (.lst (hs.map PV.str)))(q:Q (.bl (t.shut (mq hs) i)) S) :
  bD (ah (bg false) (ah ag (v3 0) (c3 (.int 0))) (c3 (.str "take"))) (bD (ah (bg false) (v3 4) (c3 (.int 0))) (ah (iM true) (ah ag (v3 0) (c3 (.int 1))) (v3 1))) [some t.pv,some (.ref nm),x2,x3,some (.int (i:Int)),x5,x6] S Q dD:=by
 rw[Bd.BU]
 simp only[bD,ah,v3,lk,c3,ag,fu,bg,HZ]
 by_cases h:t.hd=("take":Str)
 ·obtain⟨z,m,a,b,rfl⟩:=(Bd.En t).mp h
  rw[IU h,if_pos rfl]
  cases i with
  |zero=>
   rw[IU (show((0:Nat):Int)=0 from rfl),if_pos rfl]
   simp only[Bd.tl,jk]
   refine eY hn (hj z g.1) hh ?_
   rw[show(true != decide (z∈hs))=Bd.shut (mq hs) (Bd.AR z m a b) 0 by show _=!decide (z∈hs);cases decide (z∈hs)<;>rfl]
   exact q
  |succ i=>
   rw[Iu (show ¬(((i+1:Nat):Int)=0) by omega),if_neg (by decide)]
   exact q
 ·rw[Iu h,if_neg (by decide)]
  have e:t.shut (mq hs) i=false:=by cases t<;>first|rfl|exact absurd rfl h
  rw[e]at q
  exact q
def CC{xs s0:aA}(Bs:eZ xs)(n:Nat)(ih:jv n s0):jv (n+1) (Ab 7 (cp xs s0)):=by
 intro S t js us hs nm r Q E hd FF hg hj hh hn k
 unfold cp
 refine fT ?_
 rw[show az 7 [t.pv,.ref nm,.bl r]=[some t.pv,some (.ref nm),some (.bl r),none,none,none,none] from rfl]
 refine al fun N hN=>?_
 walk_at "x"
 intro p hp
 have X0:Ext S (zS S p (.lst [.tup [t.pv,.bl r]])):=.new hp
 have hp0:(zS S p (.lst [.tup [t.pv,.bl r]])) p=some (.lst [.tup [t.pv,.bl r]]):=aa
 generalize zS S p (.lst [.tup [t.pv,.bl r]])=S0 at X0 hp0
 refine hN _ _ (al fun N hN=>?_)
 simp only[cV,cI,ad,ap,v3,lk]
 refine Bs ?_
 dsimp only
 have hps:(t.AI (mq hs) r).length=t.sides.length:=J8
 refine b_ (fun done σ S'=>∃(x4 x5 x6:Option PV),σ=[some t.pv,some (.ref nm),some (.bl r),some (.ref p),x4,x5,x6]/\Ext S S'/\done.length<=t.sides.length/\S' p=some (.lst (((t,r)::((t.AI (mq hs) r).take done.length).flatMap fun p=>p.1.pr (mq hs) p.2).map eM))) ⟨_,_,_,rfl,X0,IA _,hp0⟩ (fun _ _ _ _=>trivial) ?_ ?_
 ·rintro done x rest σ S1 K e ⟨x4,x5,x6,rfl,X1,hl,h1⟩ hK
  obtain⟨y,rfl,hy⟩:=eL e
  rw[HY]at hy
  cases hs':t.sides[done.length]? with
  |none=>rw[hs']at hy;cases hy
  |some s=>
  rw[hs']at hy
  cases hy
  have hlt:done.length < t.sides.length:=(Im.mp hs').1
  have hr:s∈t.sides:=Ir hs'
  have hrd:=Bd.CA hr
  have hn1:=X1 _ _ hn
  have hq:(t.AI (mq hs) r)[done.length]?=some (s,r&&!t.shut (mq hs) done.length):=by unfold Bd.AI;rw[Kn,hs'];rfl
  simp only[Tg.put,Tg.zV,List.set_cons_succ,List.set_cons_zero]
  refine al fun N2 Bf=>?_
  simp only[aq]
  refine sW hg hj hh hn1 ?_
  simp only[List.set_cons_succ,List.set_cons_zero]
  refine Bf _ _ ?_
  simp only[aY,d9,mo,ap,ad,v3,lk,h1,Kp,bD,j1]
  have go:∀Q':bF,(∀q S2,S1 q=none->Ext S1 S2->S2 q=some (.lst ((s.pr (mq hs) (r&&!t.shut (mq hs) done.length)).map eM))->Q' (.ref q) S2)->s0 [s.pv,.ref nm,.bl (r&&!t.shut (mq hs) done.length)] S1 Q' dD:=fun Q' k'=>ih (by omega) (by omega) (Bd.CL hg hr) hj hh hn1 k'
  have tail:∀q S2,S1 q=none->Ext S1 S2->S2 q=some (.lst ((s.pr (mq hs) (r&&!t.shut (mq hs) done.length)).map eM))->bT (.ref p) [.ref q] S2 (fun _ S3=>K [some t.pv,some (.ref nm),some (.bl r),some (.ref p),some (.int (done.length:Int)),some s.pv,some (.bl (t.shut (mq hs) done.length))] S3):=fun q S2 hq2 X2 h2=>by
   simp only[bT,X2 _ _ h1,h2]
   have et:((t.AI (mq hs) r).take (done.length+1)).flatMap (fun p=>p.1.pr (mq hs) p.2)=((t.AI (mq hs) r).take done.length).flatMap (fun p=>p.1.pr (mq hs) p.2)++s.pr (mq hs) (r&&!t.shut (mq hs) done.length):=by
    rw[JL,hq,JF];simp
   have ln:((t,r)::((t.AI (mq hs) r).take (done.length+1)).flatMap fun p=>p.1.pr (mq hs) p.2).length<=t.size:=by
    rw[<-Bd.AS (mq hs) t r,Bd.DS]
    rw[Ih,Ih]
    have:(t.AI (mq hs) r).flatMap (fun p=>p.1.pr (mq hs) p.2)=((t.AI (mq hs) r).take (done.length+1)).flatMap (fun p=>p.1.pr (mq hs) p.2)++((t.AI (mq hs) r).drop (done.length+1)).flatMap (fun p=>p.1.pr (mq hs) p.2):=by rw[<-JF,List.take_append_drop]
    rw[this,HL]
    omega
   rw[Ih,et,HL]at ln
   refine⟨bN (by simp only[HM,List.length_cons];omega),?_⟩
   refine hK _ _ ⟨_,_,_,rfl,(X1.trans X2).put hp,by rw[HL];exact hlt,?_⟩
   rw[aa,HL,HX,et,<-Iz]
   rfl
  cases r with
  |true=>rw[if_pos rfl];exact go _ tail
  |false=>rw[if_neg (by decide)];exact go _ tail
 ·rintro σ S1 ⟨x4,x5,x6,rfl,X1,hl,h1⟩
  refine hN _ _ ?_
  walk_at "x"
  refine k p S1 hp X1 ?_
  rw[h1,Bd.DS]
  have:(L3.aJ (t.sides.map Bd.pv)).length=(t.AI (mq hs) r).length:=by unfold L3.aJ;rw[J8,HM,hps]
  rw[this,JZ]
structure HG (js:Vs) (ds:List (Str×Bd)):Prop where
 jw:mC js
 jl:js.length<=50
 dl:ds.length<=1000
 gd:∀p∈ds,p.2.good js []
 dp:∀p∈ds,p.2.dep<=6
 sz:∀p∈ds,p.2.size<=60
def CV(ds:List (Str×Bd))(hs:Vs)(d tr:PV)(z:Str):Prop:=∃(dk pl:Nat) (dn:Str) (t:Bd) (m:Int),d = .int (dk:Int)/\tr=t.led pl (.tup [])/\ds[dk]?=some (dn,t)/\(t.pr (mq hs) true)[pl]?=some (.put z m,true)
def CV.zV{ds:List (Str×Bd)}{hs:Vs}{d tr:PV}{z:Str}:CV ds hs d tr z->z∈Aw (mq hs) ds:=fun⟨_,_,_,t,m,_,_,h1,h2⟩=>Ku.mpr ⟨_,Ir h1,(Bd.Ao (mq hs) t).mpr ⟨m,Ir h2⟩⟩
abbrev jx(w:aA):Prop:=∀{S:ar} {js hs:Vs} {ds:List (Str×Bd)} {nm:Addr} {Q:bF} {E:cz},HG js ds->mC hs->S nm=some (.lst (hs.map PV.str))->
  (∀S',Ext S S'->(∀z∈Aw (mq hs) ds,z∈hs)->Q .non S')->
  (∀(k:Nat) z d tr S',Ext S S'->js[k]?=some z->CV ds hs d tr z->z ∉ hs->Q (.tup [.int (k:Int),d,tr]) S')->w [Av js ds,.ref nm] S Q E
def qE{js:Vs}{z:Str}(h:z∈js):∃k:Nat,js[k]?=some z/\∀j:Nat,j < k->js[j]?≠some z:=by
 induction js with
 |nil=>cases h
 |cons x r ih=>
  by_cases e:x=z
  ·subst e;exact⟨0,rfl,fun j hj=>absurd hj (Nat.not_lt_zero _)⟩
  ·obtain⟨k,h1,h2⟩:=ih ((HW.mp h).resolve_left (JM e))
   refine⟨k+1,by simpa using h1,fun j hj=>?_⟩
   cases j with
   |zero=>simpa using e
   |succ j=>simpa using h2 j (by omega)
def Ck{xp xl:aA}(CC:jv 6 xp)(Eo:gq 6 xl):jx (Ab 7 (eF xp xl)):=by
 intro S js hs ds nm Q E hg hh hn k0 k1
 unfold eF
 refine fT ?_
 rw[show az 7 [Av js ds,.ref nm]=[some (.tup [qD js,.tup (ds.map dQ)]),some (.ref nm),none,none,none,none,none] from rfl]
 refine al fun N hN=>?_
 simp only[cV,cI,ah,v3,lk,c3,ag,jk]
 refine b_ (fun done σ S'=>∃(x2 x3 x4 x5 x6:Option PV),σ=[some (.tup [qD js,.tup (ds.map dQ)]),some (.ref nm),x2,x3,x4,x5,x6]/\Ext S S'/\done.length<=ds.length/\∀p∈ds.take done.length,∀z∈p.2.zV (mq hs),z∈hs) ⟨_,_,_,_,_,rfl,.refl,IA _,by simp⟩ (fun _ _ _ _=>trivial) ?_ ?_
 ·rintro done x rest σ S1 K e ⟨x2,x3,x4,x5,x6,rfl,X1,hl,hd⟩ hK
  obtain⟨y,rfl,hy⟩:=eL e
  rw[HY]at hy
  cases hs':ds[done.length]? with
  |none=>rw[hs']at hy;cases hy
  |some p=>
  rw[hs']at hy
  cases hy
  obtain⟨dn,t⟩:=p
  have hlt:done.length < ds.length:=(Im.mp hs').1
  have hm:(dn,t)∈ds:=Ir hs'
  have hn1:=X1 _ _ hn
  simp only[Tg.put,Tg.zV,List.set_cons_succ,List.set_cons_zero]
  simp only[gT,ap,ah,v3,lk,c3,ag,dQ,jk,List.cons_append,List.nil_append]
  refine CC (hg.dp _ hm) (by have:t.size<=60:=hg.sz _ hm;omega) (hg.gd _ hm) hg.jw hh hn1 fun pl S2 hpl X2 h2=>?_
  simp only[h2]
  have hn2:=X2 _ _ hn1
  refine b_ (fun A0 σ S'=>∃(x4 x5 x6:Option PV),σ=[some (.tup [qD js,.tup (ds.map dQ)]),some (.ref nm),some (.int (done.length:Int)),some (.tup [.str dn,t.pv]),x4,x5,x6]/\S'=S2/\∀z m,(Bd.put z m,true)∈(t.pr (mq hs) true).take A0.length->z∈hs) ⟨_,_,_,rfl,rfl,by simp⟩ (fun _ _ _ ⟨_,_,_,_,h,_⟩=>by rw[h];exact h2) ?_ ?_
  ·rintro A0 x ES σ S3 K2 e2 ⟨y4,y5,y6,rfl,rfl,hd2⟩ F4
   obtain⟨y,rfl,hy⟩:=eL e2
   rw[HY]at hy
   cases hu:(t.pr (mq hs) true)[A0.length]? with
   |none=>rw[hu]at hy;cases hy
   |some u=>
   rw[hu]at hy
   cases hy
   obtain⟨u,f⟩:=u
   have hup:A0.length < t.size:=by rw[<-Bd.AS (mq hs) t true];exact(Im.mp hu).1
   have EU:(u,f)∈t.pr (mq hs) true:=Ir hu
   have cont:(f=true->∀z m,u=Bd.put z m->z∈hs)->∀(S':ar) (x6:Option PV),S'=S3->K2 [some (.tup [qD js,.tup (ds.map dQ)]),some (.ref nm),some (.int (done.length:Int)),some (.tup [.str dn,t.pv]),some (.int (A0.length:Int)),some (eM (u,f)),x6] S':=fun hc S' x6 eS=>F4 _ _ ⟨_,_,_,rfl,eS,fun z m hz=>by
    rw[HL,HX,JL,hu,HV]at hz
    rcases hz with hz|hz
    ·exact hd2 z m hz
    ·have:(Bd.put z m,true)=(u,f):=by simpa using hz
     cases this
     exact hc rfl z m rfl⟩
   simp only[Tg.put,Tg.zV,List.set_cons_succ,List.set_cons_zero]
   refine al fun N3 Di=>?_
   simp only[aq,ah,v3,lk,c3,ag,eM,fu,List.set_cons_succ,List.set_cons_zero]
   refine Di _ _ ?_
   simp only[bq,jF,aU,ah,v3,lk,c3,ag,jk]
   cases f with
   |false=>
    rw[if_neg (by decide),if_neg (by decide)]
    exact cont (fun h=>by cases h) _ _ rfl
   |true=>
   rw[if_pos rfl,Bd.BU]
   simp only[fu,jk,bg,HZ,Ib]
   by_cases Cl:u.hd=("put":Str)
   ·obtain⟨z,m,rfl⟩:=(Bd.Dk u).mp Cl
    rw[if_pos Cl]
    have hz:z∈t.zV (mq hs):=(Bd.Ao (mq hs) t).mpr ⟨m,EU⟩
    have Ep:z∈js:=t.Ai (hg.gd _ hm) hz
    simp only[Bd.tl,jk]
    refine eY hn2 (hg.jw z Ep) hh ?_
    by_cases hin:z∈hs
    ·simp only[hin,Jp,Jw,Lb,Ie,IP]
     exact cont (fun _ z' m' e=>by cases e;exact hin) _ _ rfl
    ·simp only[hin,K3,Jw,JK,IV]
     obtain⟨kk,hk1,hk2⟩:=qE Ep
     simp only[ay,aB,ap,vB,ah,v3,lk,c3,ag,fu,jk,qD,iQ,jh]
     refine⟨kk,hk1,hk2,?_⟩
     simp only[ad,ap,ah,v3,lk,c3,ag,jk,aB]
     refine Eo (hg.dp _ hm) (by have:t.size<=60:=hg.sz _ hm;omega) hup fun S4 X4=>?_
     exact k1 kk z _ _ S4 (X1.trans (X2.trans X4)) hk1 ⟨done.length,A0.length,dn,t,m,rfl,rfl,hs',hu⟩ hin
   ·rw[if_neg Cl,if_neg (by decide),<-Bd.BU]
    exact cont (fun _ z m e=>absurd (by rw[e];rfl) Cl) _ _ rfl
  ·rintro σ S3 ⟨y4,y5,y6,rfl,rfl,hd2⟩
   have ln:(L3.aJ ((t.pr (mq hs) true).map eM)).length=(t.pr (mq hs) true).length:=by unfold L3.aJ;rw[J8,HM]
   rw[ln,JZ]at hd2
   refine hK _ _ ⟨_,_,_,_,_,rfl,X1.trans X2,by rw[HL];exact hlt,fun p hp z hz=>?_⟩
   rw[HL,HX,JL,hs',HV]at hp
   rcases hp with hp|hp
   ·exact hd p hp z hz
   ·have:p=(dn,t):=by simpa using hp
    subst this
    obtain⟨m,hm'⟩:=(Bd.Ao (mq hs) t).mp hz
    exact hd2 z m hm'
 ·rintro σ S1 ⟨x2,x3,x4,x5,x6,rfl,X1,hl,hd⟩
  refine hN _ _ ?_
  have ln:(L3.aJ (ds.map dQ)).length=ds.length:=by unfold L3.aJ;rw[J8,HM]
  rw[ln,JZ]at hd
  walk_at "x"
  refine k0 S1 X1 fun z hz=>?_
  obtain⟨p,hp,hz⟩:=Ku.mp hz
  exact hd p hp z hz
def lE(js:Vs)(ds:List (Str×Bd))(hs:Vs)(v:PV)(z:Str):Prop:=∃(k:Nat) (d tr:PV),v = .tup [.int (k:Int),d,tr]/\js[k]?=some z/\CV ds hs d tr z
abbrev iu(w:aA):Prop:=∀{S:ar} {js:Vs} {ds:List (Str×Bd)} {Q:bF} {E:cz},HG js ds->
  (∀p (vs:List PV) (hs:Vs) S',S p=none->Ext S S'->S' p=some (.lst vs)->vs.length=hs.length->(∀(j:Nat) v z,vs[j]?=some v->hs[j]?=some z->lE js ds (hs.take j) v z)->Fs ds hs->hs.Nodup->(∀z∈hs,z∈js)->(∀z∈Aw (mq hs) ds,z∈hs)->Q (.ref p) S')->w [Av js ds] S Q E
def BF{xn:aA}(Ck:jx xn):iu (Ab 4 (gU xn)):=by
 intro S js ds Q E hg k
 unfold gU
 refine fT ?_
 rw[show az 4 [Av js ds]=[some (Av js ds),none,none,none] from rfl]
 refine al fun N hN=>?_
 walk_at "x"
 intro pf hpf
 refine hN _ _ (al fun N hN=>?_)
 walk_at "x"
 intro pn EB
 have F5:pf≠pn:=fun e=>by rw[<-e,aa]at EB;cases EB
 have X0:Ext S (zS (zS S pf (.lst [])) pn (.lst [])):=(Ext.new hpf).trans (.new EB)
 have f0:(zS (zS S pf (.lst [])) pn (.lst [])) pf=some (.lst []):=by rw[aj F5,aa]
 have n0:(zS (zS S pf (.lst [])) pn (.lst [])) pn=some (.lst ([].map PV.str)):=aa
 have F6:S pn=none:=(Ext.new hpf).free EB
 generalize zS (zS S pf (.lst [])) pn (.lst [])=S0 at X0 f0 n0
 refine hN _ _ (al fun N hN=>?_)
 -- what holds EV the next step is known
 have I0:∀(v:PV) (S1:ar) (vs:List PV) (hs:Vs) (N':b5->ar->Prop),True:=fun _ _ _ _ _=>trivial
 have GI:∀(S1:ar) (vs:List PV) (hs:Vs) (R:PV->ar->Prop),Ext S S1->S1 pf=some (.lst vs)->S1 pn=some (.lst (hs.map PV.str))->vs.length=hs.length->(∀(j:Nat) v z,vs[j]?=some v->hs[j]?=some z->lE js ds (hs.take j) v z)->Fs ds hs->hs.Nodup->(∀z∈hs,z∈js)->
   (∀v S2,Ext S S2->S2 pf=some (.lst vs)->S2 pn=some (.lst (hs.map PV.str))->((v = .non/\∀z∈Aw (mq hs) ds,z∈hs)\/(∃z,lE js ds hs v z/\z ∉ hs/\z∈js))->R v S2)->xn [Av js ds,.ref pn] S1 R dD:=by
  intro S1 vs hs R X1 f1 n1 h1 h2 h3 h4 h5 kk
  refine Ck hg (fun z hz=>hg.jw z (h5 z hz)) n1 (fun S2 X2 cl=>kk _ S2 (X1.trans X2) (X2 _ _ f1) (X2 _ _ n1) (.inl ⟨rfl,cl⟩)) fun kx z d tr S2 X2 a1 a2 a3=>?_
  exact kk _ S2 (X1.trans X2) (X2 _ _ f1) (X2 _ _ n1) (.inr ⟨z,⟨kx,d,tr,rfl,a1,a2⟩,a3,Ir a1⟩)
 simp only[aq,ad,ap,v3,lk]
 refine GI S0 [] [] _ X0 f0 n0 rfl (fun j v z h=>by cases h) .nil Lo (fun z h=>by cases h) fun v0 S1 X1 f1 n1 c1=>?_
 simp only[List.set_cons_succ,List.set_cons_zero]
 refine hN _ _ (al fun N hN=>?_)
 refine⟨fun m σ S'=>∃(v:PV) (vs:List PV) (hs:Vs),σ=[some (Av js ds),some (.ref pf),some (.ref pn),some v]/\Ext S S'/\S' pf=some (.lst vs)/\S' pn=some (.lst (hs.map PV.str))/\vs.length=hs.length/\(∀(j:Nat) v z,vs[j]?=some v->hs[j]?=some z->lE js ds (hs.take j) v z)/\Fs ds hs/\hs.Nodup/\(∀z∈hs,z∈js)/\
   ((v = .non/\∀z∈Aw (mq hs) ds,z∈hs)\/(∃z,lE js ds hs v z/\z ∉ hs/\z∈js))/\js.length - hs.length=m,⟨_,v0,[],[],rfl,X1,f1,n1,rfl,(fun j v z h=>by cases h),.nil,Lo,(fun z h=>by cases h),c1,rfl⟩,?_⟩
 rintro m σ S' ⟨v,vs,hs,rfl,X,f,nn,h1,h2,h3,h4,h5,c,rfl⟩
 rcases c with⟨rfl,cl⟩|⟨z,⟨kx,d,tr,rfl,hk,hx⟩,hnz,Ep⟩
 ·simp only[aU,ah,v3,lk,c3,tU,bne_self_eq_false,Ie,IP]
  refine hN _ _ ?_
  walk_at "x"
  exact k pf vs hs S' hpf X f h1 h2 h3 h4 h5 cl
 ·simp only[aU,ah,v3,lk,c3,tU,Bool.bne_false,IV]
  refine⟨fun σ' C3=>∃(v:PV) (vs:List PV) (hs':Vs),σ'=[some (Av js ds),some (.ref pf),some (.ref pn),some v]/\Ext S C3/\C3 pf=some (.lst vs)/\C3 pn=some (.lst (hs'.map PV.str))/\vs.length=hs'.length/\(∀(j:Nat) v z,vs[j]?=some v->hs'[j]?=some z->lE js ds (hs'.take j) v z)/\Fs ds hs'/\hs'.Nodup/\(∀z∈hs',z∈js)/\
   ((v = .non/\∀z∈Aw (mq hs') ds,z∈hs')\/(∃z,lE js ds hs' v z/\z ∉ hs'/\z∈js))/\js.length - hs'.length < js.length - hs.length,?_,?_⟩
  ·rintro σ' C3 ⟨v,vs,hs',rfl,a1,a2,a3,a4,a5,a6,a7,a8,a9,Hs⟩
   exact⟨_,Hs,v,vs,hs',rfl,a1,a2,a3,a4,a5,a6,a7,a8,a9,rfl⟩
  ·have hn1:(hs++[z]).Nodup:=List.nodup_append.mpr ⟨h4,by simp,fun a ha b hb e=>hnz (by rw[<-Ij.mp hb,<-e];exact ha)⟩
   have hj1:∀y∈hs++[z],y∈js:=fun y hy=>(HV.mp hy).elim (h5 y) fun h=>by rw[Ij.mp h];exact Ep
   have len:=gr (hs++[z]) js hn1 hj1
   have hz:=hx.zV
   have hjl:=hg.jl
   rw[HL,HX]at len
   refine al fun N2 Bf=>?_
   walk_at "x"
   simp only[f,Kp]
   refine⟨Ic (show _ < 1001 by omega) (by decide),Bf _ _ (al fun N2 Bf=>?_)⟩
   have Ht:pn≠pf:=JM F5
   have Xa:Ext S (zS S' pf (.lst (vs++[.tup [.int (kx:Int),d,tr]]))):=X.put hpf
   have fa:(zS S' pf (.lst (vs++[.tup [.int (kx:Int),d,tr]]))) pf=some (.lst (vs++[.tup [.int (kx:Int),d,tr]])):=aa
   have na:(zS S' pf (.lst (vs++[.tup [.int (kx:Int),d,tr]]))) pn=some (.lst (hs.map PV.str)):=by rw[aj Ht];exact nn
   generalize zS S' pf (.lst (vs++[.tup [.int (kx:Int),d,tr]]))=Sa at Xa fa na
   rw[show Av js ds = .tup [qD js,.tup (ds.map dQ)] from rfl]
   walk_at "x"
   simp only[na,Kp,fu,qD]
   rw[cw (v:=PV.str z) (by rw[HY,hk];rfl)]
   simp only[na]
   refine⟨Ic (show _ < 1001 by rw[HM];omega) (by decide),Bf _ _ ?_⟩
   have Xb:Ext S (zS Sa pn (.lst (hs.map PV.str++[.str z]))):=Xa.put F6
   have fb:(zS Sa pn (.lst (hs.map PV.str++[.str z]))) pf=some (.lst (vs++[.tup [.int (kx:Int),d,tr]])):=by rw[aj F5];exact fa
   have nb:(zS Sa pn (.lst (hs.map PV.str++[.str z]))) pn=some (.lst ((hs++[z]).map PV.str)):=by rw[aa,Iz];rfl
   generalize zS Sa pn (.lst (hs.map PV.str++[.str z]))=Sb at Xb fb nb
   have st1:∀(j:Nat) v y,(vs++[.tup [.int (kx:Int),d,tr]])[j]?=some v->(hs++[z])[j]?=some y->lE js ds ((hs++[z]).take j) v y:=fun j v y hv hy=>by
    by_cases hj:j < vs.length
    ·rw[IF hj]at hv
     rw[IF (by omega)]at hy
     rw[List.take_append_of_le_length (by omega)]
     exact h2 j v y hv hy
    ·rw[IM (by omega)]at hv
     rw[IM (by omega)]at hy
     have e1:j - vs.length=0:=by
      have:=(Im.mp hv).1
      rw[HX]at this
      omega
     have e2:j - hs.length=0:=by omega
     rw[e1]at hv
     rw[e2]at hy
     cases hv;cases hy
     refine⟨kx,d,tr,rfl,hk,?_⟩
     rw[List.take_append_of_le_length (by omega),J6 (by omega)]
     exact hx
   simp only[aq,ad,ap,v3,lk]
   refine GI Sb _ (hs++[z]) _ Xb fb nb (by simp[h1]) st1 (.snoc h3 hz) hn1 hj1 fun v2 S2 X2 f2 n2 c2=>?_
   simp only[List.set_cons_succ,List.set_cons_zero]
   exact⟨v2,_,hs++[z],rfl,X2,f2,n2,by simp[h1],st1,.snoc h3 hz,hn1,hj1,c2,by rw[HL,HX];omega⟩
def Dl(js:Vs)(ds:List (Str×Bd))(hs:Vs):Prop:=Fs ds hs/\hs.Nodup/\(∀z∈hs,z∈js)/\∀z∈Aw (mq hs) ds,z∈hs
abbrev dR(w:aA):Prop:=∀{S:ar} {js:Vs} {ds:List (Str×Bd)} {Q:bF} {E:cz},HG js ds->
  (∀p (hs:Vs) S',S p=none->Ext S S'->S' p=some (.lst (hs.map PV.str))->Dl js ds hs->Q (.ref p) S')->w [Av js ds] S Q E
def lF{xf:aA}(BF:iu xf):dR (Ab 1 (fI xf)):=by
 intro S js ds Q E hg k
 unfold fI
 refine fT ?_
 rw[show az 1 [Av js ds]=[some (Av js ds)] from rfl]
 simp only[ay,aR,a_,ad,ap,v3,lk]
 refine BF hg fun p vs hs S1 hp X1 h1 hl hst f1 f2 f3 f4=>?_
 have hjl:=hg.jl
 have hle:=gr hs js f2 f3
 simp only[cj,h1]
 have ev:vs=(vs.zip hs).map Prod.fst:=by rw[List.map_fst_zip];omega
 have eh:(vs.zip hs).map (fun z=>PV.str z.2)=hs.map PV.str:=by
  have:(vs.zip hs).map Prod.snd=hs:=by rw[List.map_snd_zip];omega
  calc _=((vs.zip hs).map Prod.snd).map PV.str:=by rw[JH];rfl
   _=_:=by rw[this]
 have key:cu (.n 0) bQ (ah ag (ah ag (v3 1) (c3 (.int 0))) (ah ag (v3 0) (c3 (.int 0)))) (dG 1 [0] [some (Av js ds)]) (fun S'=>S' p=some (.lst vs)) (fun ys S2=>∀p,S2 p=none->Q (.ref p) (zS S2 p (.lst ys))) ((vs.zip hs).map Prod.fst) [] S1:=by
  refine e_ Prod.fst (fun z=>PV.str z.2) h1 (vs.zip hs) [] (fun z hz=>?_) (by rw[Jo,J7,List.length_zip];exact bN (by omega)) fun q hq=>?_
  ·obtain⟨j,hj⟩:=List.getElem?_of_mem hz
   obtain⟨e1,e2⟩:=Kv.mp hj
   obtain⟨kx,d,tr,ez,hk,_⟩:=hst j _ _ e1 e2
   refine⟨_,rfl,fun Q' q'=>?_⟩
   rw[ez,show Av js ds = .tup [qD js,.tup (ds.map dQ)] from rfl]
   walk_at "x"
   simp only[fu,qD]
   rw[cw (v:=PV.str z.2) (by rw[HY,hk];rfl)]
   exact q'
  ·rw[Jm,eh]
   exact k q hs _ (X1.free hq) (X1.trans (.new hq)) aa ⟨f1,f2,f3,f4⟩
 rw[<-ev]at key
 exact key
def BK(p:Addr)(S S':ar):Prop:=∀a o,S a=some o->a≠p->S' a=some o
def BK.refl{p:Addr}{S:ar}:BK p S S:=fun _ _ h _=>h
def BK.trans{p:Addr}{S S1 S2:ar}(a:BK p S S1)(b:BK p S1 S2):BK p S S2:=fun x o h n=>b x o (a x o h n) n
def BK.upd{p:Addr}{S:ar}{o:SO}:BK p S (zS S p o):=fun x u h n=>by rw[aj n];exact h
theorem Bd.Ae(q:Qs):∀t:Bd,(t.zV q).length<=t.size
 | .rest=>IA _
 | .pay _ _=>IA _
 | .put _ _=>HU _
 | .use _=>IA _
 | .A2 a=>Ik (a.Ae q) (Nat.le_succ _)
 | .zX a b=>by show(a.zV q++b.zV q).length<=a.size+b.size+1;rw[HL];have:=a.Ae q;have:=b.Ae q;omega
 | .A3 a b=>by show(a.zV q++b.zV q).length<=a.size+b.size+1;rw[HL];have:=a.Ae q;have:=b.Ae q;omega
 | .AR z m a b=>by
  show((if q z=true then a.zV q else [])++b.zV q).length<=a.size+b.size+1
  rw[HL]
  have:=a.Ae q;have:=b.Ae q
  split
  ·omega
  ·simp;omega
abbrev fc(n:Nat)(w:aA):Prop:=∀{S:ar} {t:Bd} {js us hs fs:Vs} {hl fd:Addr} {Q:bF} {E:cz},t.dep<=n->t.good js us->mC js->mC hs->S hl=some (.lst (hs.map PV.str))->S fd=some (.lst (fs.map PV.str))->hl≠fd->fs.length+t.size<=1000000->
  (∀S',BK fd S S'->S' fd=some (.lst ((fs++t.zV (mq hs)).map PV.str))->Q .non S')->w [t.pv,.ref hl,.ref fd] S Q E
def mD:∀z∈(["then","either","take"]:Vs),PyData.strOk z=true:=by decide +kernel
def qF{s0:aA}(n:Nat)(ih:fc n s0):fc (n+1) (Ab 3 (eE s0)):=by
 intro S t js us hs fs hl fd Q E hd hg hj hh h1 h2 hne hsz k
 unfold eE
 refine fT ?_
 rw[Bd.BU,show az 3 [.tup (.str t.hd::t.tl),.ref hl,.ref fd]=[some (.tup (.str t.hd::t.tl)),some (.ref hl),some (.ref fd)] from rfl]
 refine al fun N hN=>?_
 have leaf:∀S1:ar,t.hd≠("often":Str)->t.hd ∉ (["then","either","take"]:Vs)->Q .non S1->N [some (.tup (.str t.hd::t.tl)),some (.ref hl),some (.ref fd)] S1:=fun S1 ho h3 q=>by
  refine hN _ _ (al fun N hN=>?_)
  simp only[bq,aU,ah,v3,lk,c3,ag,fu,bg,HZ,Ib]
  rw[if_neg ho]
  refine hN _ _ ?_
  simp only[bq,aU,ah,v3,lk,c3,ag,fu,aB,ap]
  rw[kS]
  refine bE t.Cd mD ?_
  simp only[h3,K3,HZ,Ie,IP]
  exact q
 simp only[bq,aU,ah,v3,lk,c3,ag,fu,bg,HZ,Ib]
 by_cases Cl:t.hd=("put":Str)
 ·rw[if_pos Cl]
  obtain⟨z,m,rfl⟩:=(Bd.Dk t).mp Cl
  simp only[aY,d9,mo,ap,ah,v3,lk,c3,ag,jk,Bd.tl,aZ,h2,Kp]
  have hs1:(Bd.put z m).size=1:=rfl
  refine⟨Ic (show _ < 1000001 by rw[HM];omega) (by decide),leaf _ (by simp[Bd.hd,aF]) (by simp[Bd.hd,aF]) (k _ .upd ?_)⟩
  rw[aa,Iz]
  rfl
 rw[if_neg Cl]
 by_cases Dm:t.hd=("often":Str)
 ·obtain⟨a,rfl⟩:=(Bd.Ek t).mp Dm
  refine hN _ _ (al fun N hN=>?_)
  simp only[bq,aU,ah,v3,lk,c3,ag,fu,bg,HZ,Ib]
  rw[if_pos Dm]
  simp only[aY,ad,ap,ah,v3,lk,c3,ag,jk,Bd.tl]
  simp only[Bd.dep]at hd
  have hs1:(Bd.A2 a).size=a.size+1:=rfl
  refine ih (by omega) hg hj hh h1 h2 hne (by omega) fun S1 X1 f1=>?_
  refine hN _ _ ?_
  simp only[bq,aU,ah,v3,lk,c3,ag,fu,aB,ap]
  rw[kS]
  refine bE (Bd.A2 a).Cd mD ?_
  simp only[Bd.hd,aF,String.reduceEq,HW,Il,Jc,or_self,K3,HZ,Ie,IP]
  exact k S1 X1 f1
 by_cases h3:t.hd∈(["then","either","take"]:Vs)
 ·refine hN _ _ (al fun N hN=>?_)
  simp only[bq,aU,ah,v3,lk,c3,ag,fu,bg,HZ,Ib]
  rw[if_neg Dm]
  refine hN _ _ ?_
  simp only[bq,aU,ah,v3,lk,c3,ag,fu,aB,ap]
  rw[kS]
  refine bE t.Cd mD ?_
  simp only[h3,Jp,HZ,IV]
  refine al fun N2 Bf=>?_
  -- the second side
  have snd:∀(hd2:List PV) (a b:Bd) (S1:ar) (Ff:Vs),(.str t.hd::t.tl)=hd2++[a.pv,b.pv]->b.dep<=n->b.good js us->BK fd S S1->S1 fd=some (.lst (Ff.map PV.str))->Ff.length+b.size<=1000000->Ff++b.zV (mq hs)=fs++t.zV (mq hs)->N2 [some (.tup (.str t.hd::t.tl)),some (.ref hl),some (.ref fd)] S1:=fun hd2 a b S1 Ff e1 g1 g2 X1 f1 l1 e2=>by
   refine Bf _ _ ?_
   simp only[aY,ad,ap,ah,v3,lk,c3,ag,fz,bI]
   have e3:AD (.str t.hd::t.tl) (-1)=some b.pv:=by rw[e1];have:=e7 (a:=a.pv) (b:=b.pv) (hd:=hd2) (i:=1) (.inr rfl);simpa using this
   rw[e3]
   refine ih g1 g2 hj hh (X1 _ _ h1 hne) f1 hne l1 fun S2 X2 f2=>?_
   rw[e2]at f2
   exact k S2 (X1.trans X2) f2
  have fst:∀(hd2:List PV) (a b:Bd) (Q':bF),(.str t.hd::t.tl)=hd2++[a.pv,b.pv]->a.dep<=n->a.good js us->fs.length+a.size<=1000000->(∀S1,BK fd S S1->S1 fd=some (.lst ((fs++a.zV (mq hs)).map PV.str))->Q' .non S1)->ad s0 [ah ag (v3 0) (fz bI (c3 (.int 2))),v3 1,v3 2] [some (.tup (.str t.hd::t.tl)),some (.ref hl),some (.ref fd)] S Q' dD:=fun hd2 a b Q' e1 g1 g2 l1 kk=>by
   simp only[ad,ap,ah,v3,lk,c3,ag,fz,bI]
   have e3:AD (.str t.hd::t.tl) (-2)=some a.pv:=by rw[e1];have:=e7 (a:=a.pv) (b:=b.pv) (hd:=hd2) (i:=0) (.inl rfl);simpa using this
   rw[e3]
   exact ih g1 g2 hj hh h1 h2 hne l1 kk
  simp only[bq,lm,aU,ah,v3,lk,c3,ag,fu,bg,Jw,Bool.not_eq_true',decide_eq_false_iff_not,aY]
  have la:∀c:Bd,(c.zV (mq hs)).length<=c.size:=Bd.Ae (mq hs)
  cases t with
  |zX a b=>
   have hs1:(Bd.zX a b).size=a.size+b.size+1:=rfl
   simp only[Bd.dep]at hd
   rw[if_pos (by simp[Bd.hd,aF]),if_pos trivial]
   refine fst [.str "then"] a b _ rfl (by omega) hg.1 (by omega) fun S1 X1 f1=>?_
   exact snd [.str "then"] a b S1 _ rfl (by omega) hg.2 X1 f1 (by rw[HL];have:=la a;omega) (by rw[JB];rfl)
  |A3 a b=>
   have hs1:(Bd.A3 a b).size=a.size+b.size+1:=rfl
   simp only[Bd.dep]at hd
   rw[if_pos (by simp[Bd.hd,aF]),if_pos trivial]
   refine fst [.str "either"] a b _ rfl (by omega) hg.1 (by omega) fun S1 X1 f1=>?_
   exact snd [.str "either"] a b S1 _ rfl (by omega) hg.2 X1 f1 (by rw[HL];have:=la a;omega) (by rw[JB];rfl)
  |AR z m a b=>
   have hs1:(Bd.AR z m a b).size=a.size+b.size+1:=rfl
   have ep:(Bd.AR z m a b).zV (mq hs)=(if mq hs z=true then a.zV (mq hs) else [])++b.zV (mq hs):=rfl
   simp only[Bd.dep]at hd
   rw[if_neg (by simp[Bd.hd])]
   simp only[Bd.tl,jk]
   refine eY h1 (hj z hg.1) hh ?_
   by_cases hin:z∈hs
   ·simp only[hin,Jp,HZ,IV]
    rw[show mq hs z=true from IU hin,if_pos rfl]at ep
    refine fst [.str "take",.str z,.int m] a b _ rfl (by omega) hg.2.2.2.1 (by omega) fun S1 X1 f1=>?_
    exact snd [.str "take",.str z,.int m] a b S1 _ rfl (by omega) hg.2.2.2.2 X1 f1 (by rw[HL];have:=la a;omega) (by rw[ep,JB])
   ·simp only[hin,K3,HZ,Ie,IP]
    rw[show mq hs z=false from Iu hin,if_neg (by decide),Jm]at ep
    exact snd [.str "take",.str z,.int m] a b S fs rfl (by omega) hg.2.2.2.2 .refl h2 (by omega) (by rw[ep])
  |_=>simp[Bd.hd,aF]at h3
 ·refine leaf S Dm h3 (k S .refl ?_)
  have e:t.zV (mq hs)=[]:=by cases t<;>first|rfl|exact absurd rfl Cl|exact absurd rfl Dm|simp[Bd.hd]at h3
  rw[e,Iw]
  exact h2
theorem kg{js:Vs}{ds:List (Str×Bd)}(hg:HG js ds)(q:Qs):∀n,n<=ds.length->(Aw q (ds.take n)).length<=60 * n
 |0,_=>by simp[Aw]
 |n+1,h=>by
  have ih:=kg hg q n (by omega)
  have hlt:n < ds.length:=by omega
  unfold Aw at *
  rw[JL,Ig hlt,JF,HL]
  have h1:=Bd.Ae q ds[n].2
  have h2:ds[n].2.size<=60:=hg.sz _ (Ks hlt)
  simp only[Option.toList_some,List.flatMap_cons,List.flatMap_nil,Iw]
  omega
theorem nj{js:Vs}{ds:List (Str×Bd)}(hg:HG js ds):∀k,∀z∈held ds k,z∈js
 |0,z,h=>by cases h
 |k+1,z,h=>by
  obtain⟨p,hp,hz⟩:=Ku.mp h
  exact p.2.Ai (hg.gd p hp) hz
abbrev gZ(w:aA):Prop:=∀{S:ar} {js:Vs} {ds:List (Str×Bd)} {Q:bF} {E:cz},HG js ds->(∀p S',S p=none->Ext S S'->S' p=some (.lst ((held ds js.length).map PV.str))->Q (.ref p) S')->w [Av js ds] S Q E
def B8{xp:aA}(DH:fc 6 xp):gZ (Ab 6 (cn xp)):=by
 intro S js ds Q E hg k
 unfold cn
 refine fT ?_
 rw[show az 6 [Av js ds]=[some (.tup [qD js,.tup (ds.map dQ)]),none,none,none,none,none] from rfl]
 have hdl:=hg.dl
 refine al fun N hN=>?_
 walk_at "x"
 intro p0 hp0
 have X0:Ext S (zS S p0 (.lst [])):=.new hp0
 have f0:(zS S p0 (.lst [])) p0=some (.lst ((held ds 0).map PV.str)):=aa
 generalize zS S p0 (.lst [])=S0 at X0 f0
 refine hN _ _ (al fun N hN=>?_)
 simp only[cV,a_,ah,v3,lk,c3,ag,fu,qD,cj]
 refine b_ (fun done σ S'=>∃(p:Addr) (x2 x3 x4 x5:Option PV),σ=[some (.tup [.tup (js.map PV.str),.tup (ds.map dQ)]),some (.ref p),x2,x3,x4,x5]/\S p=none/\Ext S S'/\S' p=some (.lst ((held ds done.length).map PV.str))) ⟨p0,_,_,_,_,rfl,hp0,X0,f0⟩ (fun _ _ _ _=>trivial) ?_ ?_
 ·rintro done x rest σ S1 K e ⟨p,x2,x3,x4,x5,rfl,hp,X1,f1⟩ hK
  simp only[Tg.put,List.set_cons_succ,List.set_cons_zero]
  refine al fun N2 Bf=>?_
  walk_at "x"
  intro pf hpf
  have F7:p≠pf:=fun h=>by rw[h,hpf]at f1;cases f1
  have EW:S pf=none:=X1.free hpf
  have X2:Ext S (zS S1 pf (.lst [])):=X1.trans (.new hpf)
  have f2:(zS S1 pf (.lst [])) p=some (.lst ((held ds done.length).map PV.str)):=by rw[aj F7];exact f1
  have g2:(zS S1 pf (.lst [])) pf=some (.lst (([]:Vs).map PV.str)):=aa
  generalize zS S1 pf (.lst [])=S2 at X2 f2 g2
  refine Bf _ _ (al fun N2 Bf=>?_)
  simp only[cV,a_,ah,v3,lk,c3,ag,jk,cj]
  have hJ:mC (held ds done.length):=fun z hz=>hg.jw z (nj hg _ z hz)
  refine b_ (fun A0 σ S'=>∃(x4 x5:Option PV),σ=[some (.tup [.tup (js.map PV.str),.tup (ds.map dQ)]),some (.ref p),some x,some (.ref pf),x4,x5]/\A0.length<=ds.length/\BK pf S2 S'/\S' pf=some (.lst ((Aw (mq (held ds done.length)) (ds.take A0.length)).map PV.str))) ⟨_,_,rfl,IA _,.refl,by simpa [Aw]using g2⟩ (fun _ _ _ _=>trivial) ?_ ?_
  ·rintro A0 y ES σ S3 K2 e2 ⟨x4,x5,rfl,hl2,X3,f3⟩ F4
   have hy:(ds.map dQ)[A0.length]?=some y:=by rw[e2];simp
   rw[HY]at hy
   cases hd:ds[A0.length]? with
   |none=>rw[hd]at hy;cases hy
   |some q=>
   rw[hd]at hy
   cases hy
   obtain⟨dn,t⟩:=q
   have hlt:A0.length < ds.length:=(Im.mp hd).1
   have hm:(dn,t)∈ds:=Ir hd
   simp only[dQ,Tg.put,Tg.zV,List.set_cons_succ,List.set_cons_zero]
   simp only[aY,ad,ap,v3,lk]
   have lb:=kg hg (mq (held ds done.length)) A0.length hl2
   refine DH (hg.dp _ hm) (hg.gd _ hm) hg.jw hJ (X3 _ _ f2 F7) f3 F7 (by have:t.size<=60:=hg.sz _ hm;omega) fun S4 X4 f4=>?_
   refine F4 _ _ ⟨_,_,rfl,by rw[HL];exact hlt,X3.trans X4,?_⟩
   rw[f4,HL,HX]
   congr 3
   unfold Aw
   rw[JL,hd,JF]
   simp
  ·rintro σ S3 ⟨x4,x5,rfl,hl2,X3,f3⟩
   rw[HM,JZ]at f3
   refine Bf _ _ ?_
   walk_at "x"
   refine hK _ _ ⟨pf,_,_,_,_,rfl,EW,fun a o h=>X3 a o (X2 a o h) (fun e=>by rw[e,EW]at h;cases h),?_⟩
   rw[f3,HL,HX]
   rfl
 ·rintro σ S1 ⟨p,x2,x3,x4,x5,rfl,hp,X1,f1⟩
  refine hN _ _ ?_
  walk_at "x"
  rw[HM]at f1
  exact k p S1 hp X1 f1
inductive CF (S:ar):Nat->PV->PV->Prop
 |int {n:Nat} (i:Int):CF S (n+1) (.int i) (.int i)
 |bl {n:Nat} (b:Bool):CF S (n+1) (.bl b) (.bl b)
 |str {n:Nat} (z:Str):CF S (n+1) (.str z) (.str z)
 |tup {n:Nat} {xs ys:List PV}:xs.length=ys.length->xs.length<=1000->(∀p∈xs.zip ys,CF S n p.1 p.2)->CF S (n+1) (.tup xs) (.tup ys)
 |lst {n:Nat} {a b:Addr} {xs ys:List PV}:S a=some (.lst xs)->S b=some (.lst ys)->xs.length=ys.length->xs.length<=1000->(∀p∈xs.zip ys,CF S n p.1 p.2)->CF S (n+1) (.ref a) (.ref b)
def CF.mono{S S':ar}{n:Nat}{v w:PV}(h:CF S n v w)(X:Ext S S'):CF S' n v w:=by
 induction h with
 |int i=>exact .int i
 |bl b=>exact .bl b
 |str z=>exact .str z
 |tup e l _ ih=>exact .tup e l fun p hp=>ih p hp
 |lst h1 h2 e l _ ih=>exact .lst (X _ _ h1) (X _ _ h2) e l fun p hp=>ih p hp
abbrev cA(n:Nat)(f:aA):Prop:=∀{S:ar} {v w:PV} {Q:bF} {E:cz},CF S n v w->(∀S',Ext S S'->Q (.bl true) S')->f [v,w] S Q E
def kh(n:Nat):i7 (List.replicate n (.bl true))=some (List.replicate n true):=by
 induction n with
 |zero=>rfl
 |succ n ih=>rw[IZ,IZ];show(i7 (List.replicate n (.bl true))).map _=_;rw[ih];rfl
def oD{s0:aA}{n:Nat}(ih:cA n s0){S:ar}{xs ys:List PV}{σ:b5}{keep:ar->Prop}{Q:bF}(hk:∀S',Ext S S'->keep S')(hl:xs.length<=1000)(hx:∀p∈xs.zip ys,CF S n p.1 p.2)(k:∀S',Ext S S'->Q (.bl true) S') :
  cu (.tp (.cons (.n 0) (.cons (.n 1) .nil))) bQ (ad s0 [v3 0,v3 1]) (dG 2 [] σ) keep (fun zs S2=>∀p,S2 p=none->mj [.ref p] (zS S2 p (.lst zs)) Q) (bc xs ys) [] S:=by
 have hlz:(bc xs ys).length<=xs.length:=by simp[bc];omega
 refine bV (fun done zs S'=>Ext S S'/\done.length<=(bc xs ys).length/\zs=List.replicate done.length (.bl true)) ⟨.refl,IA _,rfl⟩ (fun done zs S' ⟨X,l,e⟩=>⟨hk S' X,bN (by rw[e,IL];omega)⟩) ?_ ?_
 ·rintro done x rest zs S' K e ⟨X,l,rfl⟩ hK
  have hm:x∈bc xs ys:=by rw[e];simp
  obtain⟨p,hp,rfl⟩:=ID.mp hm
  simp only[Tg.put,Tg.zV,dG,List.reduceReplicate,Jb,Iw,List.set_cons_zero,List.set_cons_succ,bQ,IV,ad,ap,v3,lk]
  refine ih ((hx p hp).mono X) fun S2 X2=>hK _ _ ⟨X.trans X2,?_,?_⟩
  ·have:(bc xs ys).length=done.length+(rest.length+1):=by rw[e,HL,Ih]
   rw[HL,HX];omega
  ·rw[HL,HX,List.replicate_succ']
 ·rintro zs S' ⟨X,_,rfl⟩ p hp
  simp only[mj,aa,kh]
  rw[show(List.replicate (bc xs ys).length true).all id=true by simp]
  exact k _ (X.trans (.new hp))
def fe{x:PV}{S:ar}{Q:bF}{t c:String}(h:ml S x=some t)(hc:cN c=true)(q:Q (.bl (fh t c)) S):i9 [x,.ty c] S Q:=by
 show(match ml S x with|some t=>cN c=true/\Q (.bl (fh t c)) S|none=>False)
 rw[h];exact⟨hc,q⟩
def qG{x:PV}{S:ar}{Q:bF}{t:String}(h:ml S x=some t)(q:Q (.bl (fh t "list" || (fh t "tuple" || false))) S):i9 [x,.tup [.ty "list",.ty "tuple"]] S Q:=by
 show(match ml S x,vk [.ty "list",.ty "tuple"]with|some t,some l=>Q (.bl (l.any (fh t))) S|_,_=>False)
 rw[h,show vk [.ty "list",.ty "tuple"]=some ["list","tuple"] by decide +kernel];exact q
def fN{s0:aA}{S:ar}{v:PV}{t:String}{Q:bF}(h:ml S v=some t)(hn:(fh t "list" || (fh t "tuple" || false))=false)(q:∀Q2:bF,Q2 (.bl true) S->bg false v v S Q2)(k:Q (.bl true) S) :
  bw s0 { nx:=fun _ S'=>Q .non S',rt:=Q,ex:=dD } [some v,some v] S:=by
 unfold bw
 refine al fun N hN=>?_
 simp only[bq,aU,am,ap,v3,lk,c3,aB]
 refine qG h ?_
 rw[hn]
 simp only[Ie,IP,aN]
 refine hN _ _ ?_
 simp only[ay,bD,ah,am,ap,v3,lk,c3]
 refine fe h (by decide +kernel) (fe h (by decide +kernel) ?_)
 refine(show bg false (.bl (fh t "bool")) (.bl (fh t "bool")) S _ from ?_)
 rw[show ∀(b:Bool) (Q3:bF),bg false (.bl b) (.bl b) S Q3=Q3 (.bl (false != decide (b=b))) S from fun b Q3=>rfl]
 rw[HZ,IU rfl]
 dsimp only
 rw[if_pos rfl]
 exact q _ k
def ki{s0:aA}{n:Nat}(ih:cA n s0){S:ar}{v w:PV}{xs ys:List PV}{t:String}{Q:bF}(h1:ml S v=some t)(h2:ml S w=some t)(ht:t = "list" \/ t = "tuple")(l1:∀Q2:bF,Q2 (.int xs.length) S->bP [v] S Q2)(l2:∀Q2:bF,Q2 (.int ys.length) S->bP [w] S Q2)
  {keep:ar->Prop} (hz:∀R:xX->ar->Prop,R ⟨bc xs ys,keep⟩ S->m9 (v3 0) (v3 1) [some v,some w] S R dD) (hk:∀S',Ext S S'->keep S') (e:xs.length=ys.length) (l:xs.length<=1000) (hx:∀p∈xs.zip ys,CF S n p.1 p.2) (k:∀S',Ext S S'->Q (.bl true) S') :
  bw s0 { nx:=fun _ S'=>Q .non S',rt:=Q,ex:=dD } [some v,some w] S:=by
 unfold bw
 refine al fun N hN=>?_
 simp only[bq,aU,am,ap,v3,lk,c3,aB]
 refine qG h2 ?_
 rw[show(fh t "list" || (fh t "tuple" || false))=true by rcases ht with rfl|rfl<;>decide +kernel]
 simp only[IV]
 refine al fun N2 Bf=>?_
 simp only[bq,lm,aU,ah,am,ap,v3,lk,c3]
 refine fe h1 (by decide +kernel) (fe h2 (by decide +kernel) ?_)
 simp only[bg,Jp,Jw,Lb,Ie,IP]
 refine fe h1 (by decide +kernel) (fe h2 (by decide +kernel) ?_)
 simp only[bg,Jp,Jw,Lb,Ie,IP,aN]
 refine Bf _ _ ?_
 simp only[ay,bD,ah,am,ap,v3,lk]
 refine l1 _ (l2 _ ?_)
 simp only[e,bg,HZ,Jp,IV,aR]
 refine hz _ ?_
 exact oD ih hk l hx k
def B9{s0:aA}(n:Nat)(ih:cA n s0):cA (n+1) (Ab 2 (bw s0)):=by
 intro S v w Q E h k
 refine fT ?_
 rw[show az 2 [v,w]=[some v,some w] from rfl]
 cases h with
 |int i=>exact fN (t:="int") rfl (by decide +kernel) (fun Q2 q=>by simp only[bg,Jp];exact q) (k _ .refl)
 |bl b=>exact fN (t:="bool") rfl (by decide +kernel) (fun Q2 q=>by simp only[bg,Jp];exact q) (k _ .refl)
 |str z=>exact fN (t:="str") rfl (by decide +kernel) (fun Q2 q=>by simp only[bg,Jp];exact q) (k _ .refl)
 |@tup _ xs ys e l hx=>exact ki ih (t:="tuple") rfl rfl (.inr rfl) (fun Q2 q=>q) (fun Q2 q=>q) (fun R r=>r) (fun _ _=>trivial) e l hx k
 |@lst _ a b xs ys h1 h2 e l hx=>
  refine ki ih (t:="list") (keep:=fun S'=>S' a=some (.lst xs)/\S' b=some (.lst ys)) (by simp only[ml,h1]) (by simp only[ml,h2]) (.inl rfl) (fun Q2 q=>by simp only[bP,h1];exact q) (fun Q2 q=>by simp only[bP,h2];exact q) (fun R r=>?_) (fun S' X=>⟨X _ _ h1,X _ _ h2⟩) e l hx k
  simp only[m9,v3,lk,h1,h2]
  exact r
def qH{α:Type}{xs:List α}{p:α×α}(hp:p∈xs.zip xs):p.1∈xs/\p.2=p.1:=by
 induction xs with
 |nil=>cases hp
 |cons y r ih2=>
  rcases HW.mp hp with rfl|h
  ·exact⟨Jh,rfl⟩
  ·exact⟨Jk _ (ih2 h).1,(ih2 h).2⟩
def CF.same{S:ar}{L n:Nat}{v:PV}(h:DG L n v)(hL:L<=1000):CF S (n+1) v v:=by
 induction h with
 |int i=>exact .int i
 |@tup n xs l _ ih=>
  refine .tup rfl (Ik l hL) fun p hp=>?_
  obtain⟨hm,e⟩:=qH hp
  rw[e]
  exact ih _ hm
abbrev g6(w:aA):Prop:=∀{S:ar} {d l e:Addr} {js:Vs} {Q:bF} {E:cz},z9 S d l->S e=some (.lst [])->e≠d->e≠l->(∀(t:Bd) S',t.leaf->t.good js []->z9 S' d l->AO d l S S'->Q t.pv S')->w [.ref d,.ref e] S Q E
def qI{wd wc:aA}(zT:bu wd)(BI:gj wc):g6 (Ab 4 (ck wd wc)):=by
 intro S d l e js Q E D he hed hel k
 unfold ck
 refine fT ?_
 rw[show az 4 [PV.ref d,PV.ref e]=[some (.ref d),some (.ref e),none,none] from rfl]
 refine al fun N hN=>?_
 walk_at "x"
 refine zT D (by decide) (by decide) fun r S1 r0 r1 D1 O1=>?_
 have DI:=O1 _ _ he hed hel
 refine hN _ _ (al fun N hN=>?_)
 walk_at "x"
 simp only[HZ,Ib]
 split
 ·exact k .rest S1 trivial trivial D1 O1
 refine hN _ _ (al fun N hN=>?_)
 walk_at "x"
 simp only[HZ,Ib,DI]
 have pay:wc [.ref d] S1 (fun x S=>Q (.tup [.str "pay",x]) S) dD:=BI D1 fun x y S2 c D2 O2=>k (.pay x y) S2 trivial c D2 (O1.trans O2)
 split
 ·rw[if_pos trivial];exact pay
 ·rw[if_pos (show((([]:List PV).length:Nat):Int)=0 from rfl)];exact pay
def Fg(js:Vs)(kvs:List (ba×PV)):Prop:=∀z v,dy kvs (.inr z)=some v->∃y∈js,v = .str y
def Fg.get{js:Vs}{kvs:List (ba×PV)}{z:Str}(h:Fg js kvs)(hz:z∈js):∃y∈js,(dy kvs (.inr z)).getD (.str z) = .str y:=by
 cases e:dy kvs (.inr z)with
 |none=>exact⟨z,hz,rfl⟩
 |some v=>obtain⟨y,hy,rfl⟩:=h z v e;exact⟨y,hy,rfl⟩
structure Er (t u:Bd):Prop where
 dp:u.dep=t.dep
 sz:u.size=t.size
 pc:u.zU=t.zU
 rc:u.zW=t.zW
abbrev kT(n:Nat)(w:aA):Prop:=∀{S:ar} {t:Bd} {js us:Vs} {a:Addr} {kvs:List (ba×PV)} {Q:bF} {E:cz},t.dep<=n->t.good js us->S a=some (.dct kvs)->Fg js kvs->(∀u:Bd,u.good js us->Er t u->Q u.pv S)->w [t.pv,.ref a] S Q E
def nl{x:PV}{xs:List PV}:dg (x::xs) none (some 1)=[x]:=jq (n:=1) (by simp)
def oE:∀y∈(["then","either","take"]:Vs),PyData.strOk y=true:=dB
def Dn{s0:aA}(n:Nat)(ih:kT n s0):kT (n+1) (Ab 3 (cK s0)):=by
 intro S t js us a kvs Q E hd hg ha hk k
 unfold cK
 refine fT ?_
 rw[Bd.BU,show az 3 [.tup (.str t.hd::t.tl),.ref a]=[some (.tup (.str t.hd::t.tl)),some (.ref a),none] from rfl]
 refine al fun N hN=>?_
 simp only[bq,aU,ah,v3,lk,c3,ag,fu,bg,HZ,Ib]
 by_cases h1:t.hd=("put":Str)
 ·rw[if_pos h1]
  cases t with
  |put z m=>
   obtain⟨y,hy,ey⟩:=hk.get hg.1
   simp only[Bd.hd,Bd.tl,ay,aB,ap,lu,ah,v3,lk,c3,ag,jk,ya,ha,gL,ey]
   exact k (.put y m) ⟨hy,hg.2⟩ ⟨rfl,rfl,rfl,rfl⟩
  |_=>simp[Bd.hd,aF]at h1
 rw[if_neg h1]
 simp only[aN]
 refine hN _ _ (al fun N hN=>?_)
 simp only[bq,aU,ah,v3,lk,c3,ag,fu,bg,HZ,Ib]
 by_cases h2:t.hd=("often":Str)
 ·rw[if_pos h2]
  cases t with
  |A2 b=>
   simp only[Bd.dep]at hd
   simp only[Bd.hd,Bd.tl,ay,aB,ap,ad,ah,v3,lk,c3,ag,jk]
   refine ih (by omega) hg ha hk fun u gu ku=>?_
   exact k (.A2 u) gu ⟨by simp only[Bd.dep,ku.dp],by simp only[Bd.size,ku.sz],rfl,by simp only[Bd.zW,ku.pc,ku.rc]⟩
  |_=>simp[Bd.hd,aF]at h2
 rw[if_neg h2]
 simp only[aN]
 refine hN _ _ (al fun N hN=>?_)
 simp only[bq,aU,ah,v3,lk,c3,ag,fu,aB,ap]
 rw[show([PV.str "then",PV.str "either",PV.str "take"]:List PV)=(["then","either","take"]:Vs).map PV.str from rfl]
 refine bE t.Cd oE ?_
 rw[HZ]
 by_cases h3:t.hd∈(["then","either","take"]:Vs)
 ·rw[IU h3]
  simp only[IV]
  have sides:∀(hd2:List PV) (a b:Bd),(.str t.hd::t.tl)=hd2++[a.pv,b.pv]->AD (.str t.hd::t.tl) (-1)=some b.pv/\AD (.str t.hd::t.tl) (-2)=some a.pv:=fun hd2 a b e1=>⟨by rw[e1];have:=e7 (a:=a.pv) (b:=b.pv) (hd:=hd2) (i:=1) (.inr rfl);simpa using this,by rw[e1];have:=e7 (a:=a.pv) (b:=b.pv) (hd:=hd2) (i:=0) (.inl rfl);simpa using this⟩
  have two:∀(a' b':Bd) (hd2:List PV) (N':b5->ar->Prop),(.str t.hd::t.tl)=hd2++[a'.pv,b'.pv]->a'.dep<=n->b'.dep<=n->a'.good js us->b'.good js us->(∀u v:Bd,u.good js us->v.good js us->Er a' u->Er b' v->N' [some (.tup (.str t.hd::t.tl)),some (.ref a),some (.tup [u.pv,v.pv])] S)->
    aq 2 (aB [ad s0 [ah ag (v3 0) (fz bI (c3 (.int 2))),v3 1],ad s0 [ah ag (v3 0) (fz bI (c3 (.int 1))),v3 1]]) { nx:=N',rt:=Q,ex:=dD } [some (.tup (.str t.hd::t.tl)),some (.ref a),none] S:=by
   intro a' b' hd2 N' e1 da db ga gb kk
   simp only[aq,aB,ap,ad,ah,v3,lk,c3,ag,fz,bI,(sides hd2 a' b' e1).2]
   refine ih da ga ha hk fun u gu ku=>?_
   simp only[(sides hd2 a' b' e1).1]
   exact ih db gb ha hk fun v gv kv=>kk u v gu gv ku kv
  refine al fun N2 Bf=>?_
  cases t with
  |zX x y=>
   simp only[Bd.dep]at hd
   refine two x y [.str "then"] _ rfl (by omega) (by omega) hg.1 hg.2 fun u v gu gv ku kv=>Bf _ _ (al fun N3 Di=>?_)
   have en:decide (("then":Str) = "take")=false:=by decide
   simp only[bq,aU,ah,v3,lk,c3,ag,fu,bg,HZ,Bd.hd,en,Ie,IP,aN]
   refine Di _ _ ?_
   simp only[Bd.hd,Bd.tl,ay,ah,bf,kK,jH,kL,v3,lk,c3,nl,aP]
   refine⟨bN (by simp),?_⟩
   exact k (.zX u v) ⟨gu,gv⟩ ⟨by simp only[Bd.dep,ku.dp,kv.dp],by simp only[Bd.size,ku.sz,kv.sz],by simp only[Bd.zU,ku.pc,kv.pc],by simp only[Bd.zW,ku.rc,kv.rc]⟩
  |A3 x y=>
   simp only[Bd.dep]at hd
   refine two x y [.str "either"] _ rfl (by omega) (by omega) hg.1 hg.2 fun u v gu gv ku kv=>Bf _ _ (al fun N3 Di=>?_)
   have en:decide (("either":Str) = "take")=false:=by decide
   simp only[bq,aU,ah,v3,lk,c3,ag,fu,bg,HZ,Bd.hd,en,Ie,IP,aN]
   refine Di _ _ ?_
   simp only[Bd.hd,Bd.tl,ay,ah,bf,kK,jH,kL,v3,lk,c3,nl,aP]
   refine⟨bN (by simp),?_⟩
   exact k (.A3 u v) ⟨gu,gv⟩ ⟨by simp only[Bd.dep,ku.dp,kv.dp],by simp only[Bd.size,ku.sz,kv.sz],by simp only[Bd.zU,ku.pc,kv.pc],by simp only[Bd.zW,ku.rc,kv.rc]⟩
  |AR z m x y=>
   simp only[Bd.dep]at hd
   refine two x y [.str "take",.str z,.int m] _ rfl (by omega) (by omega) hg.2.2.2.1 hg.2.2.2.2 fun u v gu gv ku kv=>Bf _ _ (al fun N3 Di=>?_)
   obtain⟨y',hy,ey⟩:=hk.get hg.1
   simp only[bq,aU,ah,v3,lk,c3,ag,fu,bg,HZ,Bd.hd,Jp,IV]
   simp only[Bd.hd,Bd.tl,ay,aB,ap,lu,ah,v3,lk,c3,ag,jk,ya,ha,gL,ey,aP]
   refine⟨bN (by simp),?_⟩
   exact k (.AR y' m u v) ⟨hy,hg.2.1,hg.2.2.1,gu,gv⟩ ⟨by simp only[Bd.dep,ku.dp,kv.dp],by simp only[Bd.size,ku.sz,kv.sz],by simp only[Bd.zU,ku.pc,kv.pc],by simp only[Bd.zW,ku.rc,kv.rc]⟩
  |_=>simp[Bd.hd,aF]at h3
 ·rw[Iu h3]
  simp only[Ie,IP,aN]
  refine hN _ _ ?_
  simp only[ay,v3,lk]
  rw[<-Bd.BU]
  exact k t hg ⟨rfl,rfl,rfl,rfl⟩
structure HP (js:Vs) (ds:List (Str×Bd)):Prop extends HG js ds where
 pc:∀p∈ds,p.2.zU+p.2.zW<=1000
def Er.refl(t:Bd):Er t t:=⟨rfl,rfl,rfl,rfl⟩
def lG{α:Type}{xs:List α}{y:α}:AD (xs++[y]) (-1)=some y:=by
 unfold AD nI
 rw[if_neg (by omega),if_pos (by simp;omega)]
 have:(-1+((xs++[y]).length:Int)).toNat=xs.length:=by simp;omega
 rw[this]
 show(xs++[y])[xs.length]?=some y
 simp
def vQ{α:Type}{xs:List α}:dg xs none (some (-1))=xs.take (xs.length - 1):=by
 unfold dg
 rw[HT.iT,List.drop_zero,Nat.sub_zero]
 congr 1
 have:HT.Aj xs.length xs.length (some (-1))=if (-1:Int) < 0 then (-1+((xs.length:Nat):Int)).toNat else min (-1:Int).toNat xs.length:=rfl
 rw[this,if_pos (by decide)]
 omega
def oF{js:Vs}{a b:Str}(ha:a∈js)(hb:b∈js):Fg js (cJ [] [(.inr a,.str b),(.inr b,.str a)]):=by
 intro z v h
 have e1:gN [] (Sum.inr a:ba) (.str b)=[(.inr a,.str b)]:=rfl
 have:cJ [] [(.inr a,.str b),(.inr b,.str a)]=gN (gN [] (Sum.inr a:ba) (.str b)) (.inr b) (.str a):=rfl
 rw[this,e1]at h
 unfold gN at h
 split at h
 ·simp only[Io,Jb]at h
  split at h
  ·simp only[dy]at h
   split at h
   ·cases h;exact⟨a,ha,rfl⟩
   ·cases h
  ·simp only[dy]at h
   split at h
   ·cases h;exact⟨b,hb,rfl⟩
   ·cases h
 ·simp only[List.cons_append,List.nil_append,dy]at h
  split at h
  ·cases h;exact⟨b,hb,rfl⟩
  ·split at h
   ·cases h;exact⟨a,ha,rfl⟩
   ·cases h
def zM{r n:Nat}(h:r < n):seqIndex? (r:Int) n=some r:=by
 unfold seqIndex?
 simp
 omega
theorem kj{α β:Type}(f:α->β):∀(xs:List α) (i:Nat),(xs.map f).eraseIdx i=(xs.eraseIdx i).map f
 |[],_=>rfl
 |_::_,0=>rfl
 |x::r,i+1=>by simp only[Io,List.eraseIdx_cons_succ,kj f r i]
def oG{xs:List PV}{i:Nat}(h:i < xs.length):∃y∈xs,AD xs ((i:Int) - 1)=some y:=by
 cases i with
 |zero=>
  have hne:xs≠[]:=fun e=>by rw[e]at h;cases h
  refine⟨xs.getLast hne,List.getLast_mem hne,?_⟩
  have:=lG (xs:=xs.dropLast) (y:=xs.getLast hne)
  rw[Kc hne]at this
  exact this
 |succ i=>
  have e:(((i+1:Nat):Int) - 1)=(i:Int):=by omega
  exact⟨xs[i],Ks _,by rw[e];exact jt (Ig (by omega))⟩
structure C7 (S:ar) (d l p po pb:Addr) (W O B:List PV):Prop where
 D:z9 S d l
 w:S p=some (.lst W)
 o:S po=some (.lst O)
 b:S pb=some (.lst B)
 n:p≠d/\p≠l/\po≠d/\po≠l/\pb≠d/\pb≠l/\p≠pb/\po≠pb
def C7.BA{S S':ar}{d l p po pb:Addr}{W O B:List PV}(h:C7 S d l p po pb W O B)(D':z9 S' d l)(X:AO d l S S'):C7 S' d l p po pb W O B:=
 ⟨D',X _ _ h.w h.n.1 h.n.2.1,X _ _ h.o h.n.2.2.1 h.n.2.2.2.1,X _ _ h.b h.n.2.2.2.2.1 h.n.2.2.2.2.2.1,h.n⟩
theorem C7.new{S:ar}{d l p po pb q:Addr}{W O B:List PV}{o:SO}(h:C7 S d l p po pb W O B)(hq:S q=none):C7 (zS S q o) d l p po pb W O B:=
 h.BA (h.D.new hq) (.new hq)
def C7.put{S:ar}{d l p po pb:Addr}{W O B B':List PV}(h:C7 S d l p po pb W O B):C7 (zS S pb (.lst B')) d l p po pb W O B':=
 ⟨h.D.upd h.n.2.2.2.2.1 h.n.2.2.2.2.2.1,by rw[aj h.n.2.2.2.2.2.2.1];exact h.w,by rw[aj h.n.2.2.2.2.2.2.2];exact h.o,aa,h.n⟩
structure CB (js:Vs) (t:Bd):Prop where
 g:t.good js []
 d:t.dep<=3
 s:t.size<=5
 p:t.zU+t.zW<=9
structure CI (js:Vs) (t:Bd):Prop where
 g:t.good js []
 d:t.dep<=2
 s:t.size<=3
 p:t.zU<=2
 r:t.zW=0
def Bd.Be{t:Bd}(h:t.leaf):t.zU=1/\t.zW=0:=by cases t<;>first|exact⟨rfl,rfl⟩|exact h.elim
theorem CI.put{js:Vs}{z:Str}{m:Int}(hz:z∈js)(h0:1<=m)(h1:m<=9):CI js (.put z m):=⟨⟨hz,h0,h1⟩,by simp[Bd.dep],by simp[Bd.size],by simp[Bd.zU],rfl⟩
theorem CI.AR{js:Vs}{z y:Str}{m m':Int}{f:Bd}(hz:z∈js)(h0:1<=m)(h1:m<=9)(hy:y∈js)(h2:1<=m')(h3:m'<=9)(hl:f.leaf)(hg:f.good js []):CI js (.AR y m' (.put z m) f):=
 ⟨⟨hy,h2,h3,⟨hz,h0,h1⟩,hg⟩,by simp only[Bd.dep,(Bd.An hl).1];decide,by simp only[Bd.size,(Bd.An hl).2];decide,by simp only[Bd.zU,(Bd.Be hl).1];decide,by simp only[Bd.zW,(Bd.Be hl).2]⟩
def CI.cb{js:Vs}{t:Bd}(h:CI js t):CB js t:=⟨h.g,by have:=h.d;omega,by have:=h.s;omega,by have:=h.p;have:=h.r;omega⟩
theorem CI.zX{js:Vs}{t f:Bd}(h:CI js t)(hl:f.leaf)(hg:f.good js []):CB js (.zX f t):=
 ⟨⟨hg,h.g⟩,by have:=h.d;have:=(Bd.An hl).1;simp only[Bd.dep];omega,by have:=h.s;have:=(Bd.An hl).2;simp only[Bd.size];omega,by have:=h.p;simp only[Bd.zU,Bd.zW,(Bd.Be hl).1,(Bd.Be hl).2,h.r];omega⟩
theorem CI.A3{js:Vs}{t f:Bd}(h:CI js t)(hl:f.leaf)(hg:f.good js []):CB js (.A3 f t):=
 ⟨⟨hg,h.g⟩,by have:=h.d;have:=(Bd.An hl).1;simp only[Bd.dep];omega,by have:=h.s;have:=(Bd.An hl).2;simp only[Bd.size];omega,by have:=h.p;simp only[Bd.zU,Bd.zW,(Bd.Be hl).1,(Bd.Be hl).2,h.r];omega⟩
theorem CI.A2{js:Vs}{t:Bd}(h:CI js t):CB js (.A2 t):=
 ⟨h.g,by have:=h.d;simp only[Bd.dep];omega,by have:=h.s;simp only[Bd.size];omega,by have:=h.p;have:=h.r;simp only[Bd.zU,Bd.zW];omega⟩
abbrev fO(w:aA):Prop:=∀{S:ar} {d l:Addr} {Q:bF} {E:cz},z9 S d l->(∀js ds S',HP js ds->Q (Av js ds) S')->w [.ref d] S Q E
def B_{xw xd xl:aA}(AQ:dA xw)(zT:bu xd)(AE:g6 xl):fO (Ab 10 (dL xw xd xl)):=by
 intro S0 d l Q E D0 k
 unfold dL
 refine fT ?_
 rw[show az 10 [PV.ref d]=[some (.ref d),none,none,none,none,none,none,none,none,none] from rfl]
 refine al fun N hN=>?_
 walk_at "x"
 refine AQ D0 (by decide) (by decide) fun p ns S hl hnd hw0 _ Cj hpl hp D O0=>?_
 have Hq:ns.length=8:=hl
 refine hN _ _ (al fun N hN=>?_)
 walk_at "x"
 refine zT D (by decide) (by decide) fun r S1 r0 r1 D1 O1=>?_
 obtain⟨j,ej⟩:∃j:Nat,1+r=(j:Int):=⟨(1+r).toNat,by omega⟩
 have hp1:=O1 _ _ hp Cj hpl
 dsimp only
 rw[ej,hp1]
 dsimp only
 rw[jq (by rw[HM];omega),<-Kd]
 have hj4:j<=4:=by omega
 have hj1:1<=j:=by omega
 intro p2 hp2
 have n2:=D1.free hp2
 have D2:z9 (zS S1 p2 (.lst ((ns.take j).map PV.str))) d l:=D1.new hp2
 have f2:(zS S1 p2 (.lst ((ns.take j).map PV.str))) p2=some (.lst ((ns.take j).map PV.str)):=aa
 have GJ:p≠p2:=fun h=>by rw[h,hp2]at hp1;cases hp1
 have hp2':(zS S1 p2 (.lst ((ns.take j).map PV.str))) p=some (.lst (ns.map PV.str)):=by rw[aj GJ];exact hp1
 generalize zS S1 p2 (.lst ((ns.take j).map PV.str))=S2 at D2 f2 hp2'
 have F8:(ns.take j).length=j:=by rw[IG];omega
 have GK:∀z∈ns.take j,Ch z:=fun z hz=>(hw0 z (IW hz)).1
 generalize ns.take j=js at f2 F8 GK
 refine hN _ _ (al fun N hN=>?_)
 walk_at "x"
 simp only[f2]
 refine hN _ _ (al fun N hN=>?_)
 simp only[List.set_cons_zero,List.set_cons_succ,aq,aR,a_,v3,lk,cj]
 refine bV (fun done ys S'=>∃os rs:List Str,ys=os.map PV.str/\os.length=done.length/\rs.length+done.length=j/\(∀z∈os,z∈js)/\(∀z∈rs,z∈js)/\z9 S' d l/\S' p2=some (.lst (rs.map PV.str))/\S' p=some (.lst (ns.map PV.str))) ⟨[],js,rfl,rfl,F8,by simp,fun z h=>h,D2,f2,hp2'⟩ ?_ ?_ ?_
 ·rintro done ys S' ⟨os,rs,rfl,e,l1,_⟩
  exact⟨trivial,bN (by rw[HM,e];omega)⟩
 ·rintro done x rest ys S' K e ⟨os,rs,rfl,e1,e2,ho,hr,D',f',w'⟩ hK
  have hlen:done.length < j:=by
   have:(js.map PV.str).length=done.length+(rest.length+1):=by rw[e,HL,Ih]
   rw[HM]at this
   omega
  simp only[Tg.put,dG,List.reduceReplicate,Io,Jb,List.cons_append,List.nil_append,List.set_cons_zero,List.set_cons_succ,lk,bQ,IV,d9,mo,ap,ad,am,v3,bP,f',Kp,HM,List.getElem?_cons_zero,List.getElem?_cons_succ,Option.join]
  refine zT D' (by omega) (by omega) fun r S3 r0 r1 D3 O3=>?_
  obtain⟨i,rfl⟩:∃i:Nat,r=(i:Int):=⟨r.toNat,by omega⟩
  have hi:i < rs.length:=by omega
  have f3:=O3 _ _ f' n2.1 n2.2
  simp only[lq,f3,HM,zM hi,HY,Ig hi,Option.map_some]
  refine⟨by omega,by omega,hK _ _ ⟨os++[rs[i]],rs.eraseIdx i,by rw[Iz];rfl,by rw[HL,HL,e1];rfl,?_,?_,?_,D3.upd n2.1 n2.2,?_,?_⟩⟩
  ·rw[List.length_eraseIdx_of_lt hi,HL,HX];omega
  ·intro z hz
   rcases HV.mp hz with h|h
   ·exact ho z h
   ·rw[Ij.mp h];exact hr _ (Ks hi)
  ·exact fun z hz=>hr z (List.mem_of_mem_eraseIdx hz)
  ·rw[aa,kj]
  ·rw[aj GJ];exact O3 _ _ w' Cj hpl
 rintro ys S3 ⟨os,rs,rfl,eo,_,ho,_,D3,_,w3⟩ po F9
 rw[HM,F8]at eo
 have GL:=D3.free F9
 have Hu:p≠po:=fun h=>by rw[h,F9]at w3;cases w3
 refine hN _ _ (al fun N hN=>?_)
 walk_at "x"
 intro pb Es
 have D4:=(D3.new (o:=.lst (os.map PV.str)) F9)
 have GM:=D4.free Es
 have H0:C7 (zS (zS S3 po (.lst (os.map PV.str))) pb (.lst [])) d l p po pb (ns.map PV.str) (os.map PV.str) (([]:List Bd).map Bd.pv):=by
  have a:(zS S3 po (.lst (os.map PV.str))) p=some (.lst (ns.map PV.str)):=by rw[aj Hu];exact w3
  have b:(zS S3 po (.lst (os.map PV.str))) po=some (.lst (os.map PV.str)):=aa
  have n1:p≠pb:=fun h=>by rw[h,Es]at a;cases a
  have n2:po≠pb:=fun h=>by rw[<-h,b]at Es;cases Es
  exact⟨D4.new Es,by rw[aj n1];exact a,by rw[aj n2];exact b,aa,Cj,hpl,GL.1,GL.2,GM.1,GM.2,n1,n2⟩
 generalize zS (zS S3 po (.lst (os.map PV.str))) pb (.lst [])=S4 at H0
 refine hN _ _ (al fun N hN=>?_)
 simp only[cV,cI,v3,lk,List.set_cons_zero,List.set_cons_succ,H0.o]
 refine b_ (fun done σ S'=>∃(bs:List Bd) (x4 x7 x8 x9:Option PV),σ=[some (.ref d),some (.ref p),some (.ref p2),some (.tup (js.map PV.str)),x4,some (.ref po),some (.ref pb),x7,x8,x9]/\C7 S' d l p po pb (ns.map PV.str) (os.map PV.str) (bs.map Bd.pv)/\bs.length=done.length/\done.length<=j/\∀t∈bs,CB js t) ⟨[],_,_,_,_,rfl,H0,rfl,IA _,by simp⟩ (fun _ _ _ ⟨_,_,_,_,_,_,H,_⟩=>H.o) ?_ ?_
 ·rintro done x rest σ S' K e ⟨bs,x4,x7,x8,x9,rfl,H,lb,lj,hb⟩ hK
  obtain⟨y,rfl,hy⟩:=eL e
  obtain⟨z,hz,rfl⟩:∃z,os[done.length]?=some z/\.str z=y:=by rw[HY]at hy;exact IJ.mp hy
  have hlt:done.length < os.length:=(Im.mp hz).1
  have Ep:z∈js:=ho z (Ir hz)
  simp only[Tg.put,Tg.zV,List.set_cons_zero,List.set_cons_succ]
  refine al fun N2 Bf=>?_
  simp only[aq,aB,ap,ah,ad,v3,lk,c3]
  refine zT H.D (by decide) (by decide) fun r1 S1 a0 a1 D1 O1=>?_
  have H1:=H.BA D1 O1
  simp only[aP,List.set_cons_zero,List.set_cons_succ]
  refine Bf _ _ (al fun N2 Bf=>?_)
  have next:∀(t:Bd) (S2:ar),CI js t->C7 S2 d l p po pb (ns.map PV.str) (os.map PV.str) (bs.map Bd.pv)->N2 [some (.ref d),some (.ref p),some (.ref p2),some (.tup (js.map PV.str)),some (.str z),some (.ref po),some (.ref pb),some (.int done.length),some t.pv,x9] S2:=by
   intro t S2 ht H2
   refine Bf _ _ (al fun N3 Di=>?_)
   simp only[aq,bm,aB,ap,ad,v3,lk,c3]
   intro e1 DI
   have n1:=H2.D.free DI
   refine AE (js:=js) (H2.new DI).D aa n1.1 n1.2 fun f1 S3 l1 g1 D3 O3=>?_
   have H3:=(H2.new DI).BA D3 O3
   intro e2 F_
   have n2:=H3.D.free F_
   refine AE (js:=js) (H3.new F_).D aa n2.1 n2.2 fun f2 S4 l2 g2 D4 O4=>?_
   have H4:=(H3.new F_).BA D4 O4
   intro p9 hp9
   have n9:=H4.D.free hp9
   have H5:=H4.new (o:=.lst [.tup [.str "then",f1.pv,t.pv],.tup [.str "often",t.pv],.tup [.str "either",f2.pv,t.pv]]) hp9
   have f5:(zS S4 p9 (.lst [.tup [.str "then",f1.pv,t.pv],.tup [.str "often",t.pv],.tup [.str "either",f2.pv,t.pv]])) p9=some (.lst [.tup [.str "then",f1.pv,t.pv],.tup [.str "often",t.pv],.tup [.str "either",f2.pv,t.pv]]):=aa
   refine Di _ _ ?_
   generalize zS S4 p9 (.lst [.tup [.str "then",f1.pv,t.pv],.tup [.str "often",t.pv],.tup [.str "either",f2.pv,t.pv]])=S5 at H5 f5
   simp only[List.set_cons_zero,List.set_cons_succ,aY,d9,mo,ap,ah,ad,am,bm,v3,lk,c3,bP,aP,H5.b,Kp,HM]
   refine zT (m:=(bs.length:Int)+1) H5.D (by omega) (by omega) fun r6 S6 b0 b1 D6 O6=>?_
   have H6:=H5.BA D6 O6
   have f6:=O6 _ _ f5 n9.1 n9.2
   simp only[ag,f6,fu,jk,ya]
   intro p10 Eu
   have GN:=H6.D.free Eu
   refine zT (H6.new Eu).D (by decide) (by decide) fun r7 S7 c0 c1 D7 O7=>?_
   have H7:=(H6.new Eu).BA D7 O7
   have f7:=O7 _ _ (aa (S:=S6)) GN.1 GN.2
   simp only[f7]
   obtain⟨v,hv,hm⟩:=dN (xs:=[t.pv,.tup [.str "then",f1.pv,t.pv],.tup [.str "often",t.pv],.tup [.str "either",f2.pv,t.pv]]) c0 (by simpa using c1)
   rw[hv]
   obtain⟨u,hu,rfl⟩:∃u,CB js u/\u.pv=v:=by
    simp only[HW,Il,Jc]at hm
    rcases hm with rfl|rfl|rfl|rfl
    ·exact⟨t,ht.cb,rfl⟩
    ·exact⟨_,ht.zX l1 g1,rfl⟩
    ·exact⟨_,ht.A2,rfl⟩
    ·exact⟨_,ht.A3 l2 g2,rfl⟩
   simp only[iP,H7.b]
   refine⟨b0,by rw[HM];omega,Ic (show(bs.map Bd.pv).length < 5 by rw[HM];omega) (by decide),?_⟩
   refine hK _ _ ⟨bs.take r6.toNat++u::bs.drop r6.toNat,_,_,_,_,rfl,?_,?_,?_,?_⟩
   ·rw[Iz,Io,Kd,List.map_drop]
    exact H7.put
   ·rw[HL,Ih,IG,IQ,HL,HX];omega
   ·rw[HL,HX];omega
   ·intro w hw
    rcases HV.mp hw with h|h
    ·exact hb w (IW h)
    ·rcases HW.mp h with rfl|h
     ·exact hu
     ·exact hb w (Km h)
  have take:∀(S2:ar),C7 S2 d l p po pb (ns.map PV.str) (os.map PV.str) (bs.map Bd.pv)->aq 8 (aB [c3 (.str "take"),ah ag (v3 5) (ah b3 (v3 7) (c3 (.int 1))),ah aP (c3 (.int 1)) (ad xd [v3 0,c3 (.int 9)]),v3 8,ad xl [v3 0,bm []]]) { nx:=N2,rt:=Q,ex:=dD,ct:=K,bk:=N } [some (.ref d),some (.ref p),some (.ref p2),some (.tup (js.map PV.str)),some (.str z),some (.ref po),some (.ref pb),some (.int done.length),some (.tup [.str "put",.str z,.int (1+r1)]),x9] S2:=by
   intro S2 H2
   obtain⟨y,hy,ey⟩:=oG (xs:=os.map PV.str) (i:=done.length) (by rw[HM];exact hlt)
   obtain⟨y,Hv,rfl⟩:=ID.mp hy
   simp only[aq,aB,ap,ah,ad,bm,v3,lk,c3,b3,ag,dF,H2.o,ey]
   refine zT H2.D (by decide) (by decide) fun r2 S3 b0 b1 D3 O3=>?_
   have H3:=H2.BA D3 O3
   simp only[aP]
   intro e1 DI
   have n1:=H3.D.free DI
   refine AE (js:=js) (H3.new DI).D aa n1.1 n1.2 fun f S4 Hw hgf D4 O4=>?_
   have H4:=(H3.new DI).BA D4 O4
   exact next (.AR y (1+r2) (.put z (1+r1)) f) S4 (.AR Ep (by omega) (by omega) (ho y Hv) (by omega) (by omega) Hw hgf) H4
  simp only[bq,lm,aU,ah,am,ap,ad,v3,lk,c3,ms,dF,Ib]
  split
  ·rw[if_pos trivial];exact take S1 H1
  ·refine zT H1.D (by decide) (by decide) fun r2 S2 b0 b1 D2 O2=>?_
   have H2:=H1.BA D2 O2
   simp only[bg,HZ,Ib]
   split
   ·exact take S2 H2
   ·simp only[aN]
    exact next (.put z (1+r1)) S2 (.put Ep (by omega) (by omega)) H2
 ·rintro σ S5 ⟨bs,x4,x7,x8,x9,rfl,H,lb,lj,hb⟩
  refine hN _ _ ?_
  have Dv:bs.length<=4:=by omega
  simp only[ay,aB,ap,am,aR,cI,v3,lk,H.b]
  refine bV (fun done ys S'=>S'=S5/\∃es:List (Str×Bd),ys=es.map dQ/\es.length=done.length/\done.length<=bs.length/\∀q∈es,q.2∈bs) ⟨rfl,[],rfl,rfl,IA _,by simp⟩ ?_ ?_ ?_
  ·rintro done ys S' ⟨rfl,es,rfl,e,l1,_⟩
   exact⟨H.b,bN (by rw[HM,e];omega)⟩
  ·rintro done x rest ys S' K e ⟨rfl,es,rfl,e2,l1,he⟩ hK
   obtain⟨y,rfl,hy⟩:=eL e
   obtain⟨t,ht,rfl⟩:∃t,bs[done.length]?=some t/\t.pv=y:=by rw[HY]at hy;exact IJ.mp hy
   have hlt:done.length < bs.length:=(Im.mp ht).1
   have h8:4+done.length < ns.length:=by omega
   have hat:AD (ns.map PV.str) (4+(done.length:Int))=some (.str ns[4+done.length]):=by
    rw[show(4+(done.length:Int))=((4+done.length:Nat):Int) by omega]
    exact jt (by rw[HY,Ig h8];rfl)
   simp only[Tg.put,Tg.zV,dG,List.reduceReplicate,Io,Jb,List.cons_append,List.nil_append,List.set_cons_zero,List.set_cons_succ,lk,bQ,IV,aB,ap,ah,c3,v3,aP,ag,List.getElem?_cons_zero,List.getElem?_cons_succ,Option.join,H.w,hat]
   refine hK _ _ ⟨rfl,es++[(ns[4+done.length],t)],by rw[Iz];rfl,by rw[HL,HL,e2];rfl,by rw[HL,HX];omega,fun q hq=>?_⟩
   rcases HV.mp hq with h|h
   ·exact he q h
   ·rw[Ij.mp h];exact Ir ht
  ·rintro ys S' ⟨rfl,es,rfl,e,_,he⟩ pl hpl
   simp only[aQ,iE,aa]
   have hel:es.length<=1000:=by
    rw[e];unfold L3.aJ;rw[J8,HM];omega
   refine k js es _ ⟨⟨fun z hz=>gW (GK z hz),by omega,hel,fun q hq=>(hb _ (he q hq)).g,fun q hq=>by have:=(hb _ (he q hq)).d;omega,fun q hq=>by have:=(hb _ (he q hq)).s;omega⟩,fun q hq=>by have:=(hb _ (he q hq)).p;omega⟩
def Dl.ok{js:Vs}{ds:List (Str×Bd)}{hs:Vs}(h:Dl js ds hs)(hj:mC js):mC hs:=fun z hz=>hj z (h.2.2.1 z hz)
def sX{js:Vs}{ds:List (Str×Bd)}{hs:Vs}(h:Dl js ds hs):mq (held ds js.length)=mq hs:=sV h.1 h.2.1 h.2.2.1 h.2.2.2
abbrev Nb:=(Bd×Bool)×Nat
theorem dS{α:Type}{g:Tg}{tc:il}{te:aO}{σ':b5}{keep:ar->Prop}{fin:List PV->ar->Prop}{S:ar}(enc f:α->PV)(c:α->Bool)(hk:keep S):∀(xs:List α) (ys:List PV),
  (∀x∈xs,∃σ2,g.put (enc x) σ'=some σ2/\(∀K:Bool->ar->Prop,K (c x) S->tc σ2 S K dD)/\(c x=true->∀Q:bF,Q (f x) S->te σ2 S Q dD))->ys.length+xs.length<=sizeLine->fin (ys++(xs.filter c).map f) S->cu g tc te σ' keep fin (xs.map enc) ys S
 |[],ys,_,hl,hf=>⟨hk,by simpa using hl,by simpa using hf⟩
 |x::r,ys,h,hl,hf=>by
  obtain⟨σ2,e,h1,h2⟩:=h x (by simp)
  refine⟨hk,by simp at hl;omega,?_⟩
  rw[e]
  refine h1 _ ?_
  by_cases hc:c x=true
  ·rw[if_pos hc]
   refine h2 hc _ (dS enc f c hk r (ys++[f x]) (fun y hy=>h y (by simp[hy])) (by simp at hl ⊢;omega) ?_)
   rw[List.filter_cons_of_pos hc]at hf
   simpa using hf
  ·rw[if_neg hc]
   refine dS enc f c hk r ys (fun y hy=>h y (by simp[hy])) (by simp at hl;omega) ?_
   rw[List.filter_cons_of_neg hc]at hf
   exact hf
def kU{α:Type}(enc:α->PV)(xs:List α):L3.aJ (xs.map enc)=xs.zipIdx.map fun c=>.tup [.int (c.2:Int),enc c.1]:=by
 unfold L3.aJ
 rw[List.mapIdx_eq_zipIdx_map,List.zipIdx_map,JH]
 rfl
noncomputable def Bd.rws(q:Qs)(t:Bd)(r:Bool):List (Bd×Bool):=(t.pr q r).filter fun p=>p.1.z_
noncomputable def nums(k:Nat)(l:List (Bd×Bool)):List PV:=((l.zipIdx k).filter fun c=>c.1.2).map fun c=>.int (c.2:Int)
noncomputable def Bd.DJ(q:Qs)(t:Bd):List PV:=nums 0 (t.rws q true)++[.int ((t.rws q true).length:Int)]
def kl(k:Nat)(p:Bd×Bool)(l:List (Bd×Bool)):nums k (p::l)=(if p.2 then [.int (k:Int)] else [])++nums (k+1) l:=by
 unfold nums
 rw[List.zipIdx_cons,K9]
 split<;>rfl
def eN(k:Nat)(l m:List (Bd×Bool)):nums k (l++m)=nums k l++nums (k+l.length) m:=by
 unfold nums
 rw[List.zipIdx_append,KN,Iz]
def eO(k:Nat)(l:List (Bd×Bool)):(nums k l).length<=l.length:=by
 unfold nums
 rw[HM]
 exact Ik (Kf _ _) (Ly List.length_zipIdx)
def iR(q:Qs)(t:Bd)(r:Bool):(t.rws q r).length<=t.size:=Ik (Kf _ _) (Ly (t.AS q r))
def sY(q:Qs)(t:Bd)(n:Nat):∀x∈t.DJ q,DG n 1 x:=by
 intro x hx
 rcases HV.mp hx with h|h
 ·obtain⟨c,_,rfl⟩:=ID.mp h;exact .int _
 ·rw[Ij.mp h];exact .int _
def sZ(q:Qs)(t:Bd):(t.DJ q).length<=t.size+1:=by
 unfold Bd.DJ
 rw[HL]
 have:=eO 0 (t.rws q true);have:=iR q t true
 simp;omega
abbrev g7(w:aA):Prop:=∀{S:ar} {t:Bd} {js us hs:Vs} {nm:Addr} {Q:bF} {E:cz},t.dep<=6->t.size<=900->t.good js us->mC js->mC hs->S nm=some (.lst (hs.map PV.str))->
  (∀S',Ext S S'->Q (.tup (t.DJ (mq hs))) S')->w [t.pv,.ref nm] S Q E
def qJ{xp xh:aA}(CC:jv 6 xp)(EX:fM xh):g7 (Ab 4 (cL xp xh)):=by
 intro S t js us hs nm Q E hd hz hg hj hh hn k
 unfold cL
 refine fT ?_
 rw[show az 4 [t.pv,.ref nm]=[some t.pv,some (.ref nm),none,none] from rfl]
 refine al fun N hN=>?_
 simp only[aq,aR,a_,gT,ap,v3,lk,List.cons_append,List.nil_append]
 refine CC hd hz hg hj hh hn fun p S1 hp X1 f1=>?_
 simp only[cj,f1]
 have hpl:=t.AS (mq hs) true
 refine dS eM eM (fun p=>p.1.z_) f1 (t.pr (mq hs) true) [] (fun x hx=>⟨_,rfl,?_,fun _ Q q=>q⟩) (bN (by rw[Jo,J7,hpl];omega)) ?_
 ·intro K hK
  simp only[aU,ad,ap,ah,v3,lk,c3,ag,eM,dG,List.reduceReplicate,Jb,Iw,List.set_cons_zero,fu]
  exact EX hK
 intro p2 hp2
 rw[Jm]
 have X2:Ext S1 (zS S1 p2 (.lst ((t.rws (mq hs) true).map eM))):=.new hp2
 have f2:(zS S1 p2 (.lst ((t.rws (mq hs) true).map eM))) p2=some (.lst ((t.rws (mq hs) true).map eM)):=aa
 show N _ (zS S1 p2 (.lst ((t.rws (mq hs) true).map eM)))
 generalize zS S1 p2 (.lst ((t.rws (mq hs) true).map eM))=S2 at X2 f2
 refine hN _ _ (al fun N hN=>?_)
 simp only[aq,aR,cI,v3,lk,List.set_cons_zero,List.set_cons_succ,f2]
 rw[kU]
 have hol:(t.rws (mq hs) true).length<=900:=Ik (iR _ _ _) hz
 refine dS (fun c:Nb=>.tup [.int (c.2:Int),eM c.1]) (fun c=>.int (c.2:Int)) (fun c=>c.1.2) f2 (t.rws (mq hs) true).zipIdx [] (fun c hc=>⟨_,rfl,?_,fun _ Q q=>q⟩) (bN (by rw[Jo,J7,List.length_zipIdx];omega)) ?_
 ·intro K hK
  simp only[aU,ah,v3,lk,c3,ag,eM,dG,List.reduceReplicate,Jb,Iw,List.set_cons_zero,List.set_cons_succ,jk]
  exact hK
 intro p3 hp3
 rw[Jm]
 have X3:Ext S2 (zS S2 p3 (.lst (nums 0 (t.rws (mq hs) true)))):=.new hp3
 have f3:(zS S2 p3 (.lst (nums 0 (t.rws (mq hs) true)))) p3=some (.lst (nums 0 (t.rws (mq hs) true))):=aa
 have f32:=X3 _ _ f2
 show N _ (zS S2 p3 (.lst (nums 0 (t.rws (mq hs) true))))
 generalize zS S2 p3 (.lst (nums 0 (t.rws (mq hs) true)))=S3 at X3 f3 f32
 refine hN _ _ ?_
 simp only[ay,am,ap,ah,bm,v3,lk,bP,List.set_cons_zero,List.set_cons_succ,f32,HM]
 intro p4 C5
 have n4:p3≠p4:=fun h=>by rw[h,C5]at f3;cases f3
 simp only[aP,aj n4,f3,aa]
 refine⟨bN (by have:=eO 0 (t.rws (mq hs) true);rw[HX];omega),fun p5 Hx=>?_⟩
 simp only[aQ,iE,aa]
 exact k _ ((X1.trans (X2.trans X3)).trans ((Ext.new C5).trans (.new Hx)))
abbrev g_(w:aA):Prop:=∀{S:ar} {js:Vs} {ds:List (Str×Bd)} {Q:bF} {E:cz},HG js ds->
  (∀hs S',Dl js ds hs->Ext S S'->Q (.tup (ds.map fun p=>.tup (p.2.DJ (mq hs)))) S')->w [Av js ds] S Q E
def qK{xf xr:aA}(DK:dR xf)(DL:g7 xr):g_ (Ab 2 (cM xf xr)):=by
 intro S js ds Q E hG k
 unfold cM
 refine fT ?_
 rw[show az 2 [Av js ds]=[some (.tup [.tup (js.map PV.str),.tup (ds.map dQ)]),none] from rfl]
 refine al fun N hN=>?_
 simp only[aq,ad,ap,v3,lk]
 refine DK hG fun nm hs S1 hnm X1 Fh hf=>?_
 have hh:=hf.ok hG.jw
 refine hN _ _ ?_
 simp only[ay,am,ap,aR,a_,ah,v3,lk,c3,ag,jk,cj,List.set_cons_zero,List.set_cons_succ]
 refine bV (fun done ys S'=>Ext S1 S'/\done.length<=ds.length/\ys=(ds.take done.length).map fun p=>.tup (p.2.DJ (mq hs))) ⟨.refl,IA _,rfl⟩ (fun done ys S' ⟨X,l,e⟩=>⟨trivial,bN (by rw[e,HM,IG];have:=hG.dl;omega)⟩) ?_ ?_
 ·rintro done x rest ys S' K e ⟨X,l,rfl⟩ hK
  have hget:(ds.map dQ)[done.length]?=some x:=by rw[e];simp
  obtain⟨p,hp,rfl⟩:∃p,ds[done.length]?=some p/\dQ p=x:=by rw[HY]at hget;exact IJ.mp hget
  have hm:=Ir hp
  have hlt:done.length < ds.length:=(Im.mp hp).1
  simp only[dQ,Tg.put,dG,List.reduceReplicate,Io,Jb,List.cons_append,List.nil_append,List.set_cons_zero,List.set_cons_succ,lk,bQ,IV,ad,ap,ah,c3,v3,ag,jk,List.getElem?_cons_zero,List.getElem?_cons_succ,Option.join]
  refine DL (hG.dp p hm) (Ik (hG.sz p hm) (by decide)) (hG.gd p hm) hG.jw hh (X _ _ Fh) fun S2 X2=>hK _ _ ⟨X.trans X2,by rw[HL,HX];omega,?_⟩
  rw[HL,HX,JL,hp,Iz];rfl
 ·rintro ys S' ⟨X,_,rfl⟩ q hq
  rw[HM,JZ]
  simp only[aQ,iE,aa]
  exact k hs _ hf (X1.trans (X.trans (.new hq)))
abbrev ff(n:Nat)(w:aA):Prop:=∀{S:ar} {t:Bd} {js us hs:Vs} {fs:List PV} {i:Nat} {r:Bool} {hl fd:Addr} {Q:bF} {E:cz},t.dep<=n->t.good js us->mC js->mC hs->S hl=some (.lst (hs.map PV.str))->S fd=some (.lst fs)->hl≠fd->fs.length+t.size<=1000->
  (∀S',BK fd S S'->S' fd=some (.lst (fs++nums i (t.rws (mq hs) r)))->Q (.int ((i+(t.rws (mq hs) r).length:Nat):Int)) S')->w [t.pv,.int (i:Int),.ref hl,.bl r,.ref fd] S Q E
def qL{s0:aA}(n:Nat)(ih:ff n s0):ff (n+1) (Ab 5 (eG s0)):=by
 intro S t js us hs fs i r hl fd Q E hd hg hj hh h1 h2 hne hsz k
 have hb:=Bd.size_pos t
 unfold eG
 refine fT ?_
 rw[Bd.BU,show az 5 [.tup (.str t.hd::t.tl),.int (i:Int),.ref hl,.bl r,.ref fd]=[some (.tup (.str t.hd::t.tl)),some (.int (i:Int)),some (.ref hl),some (.bl r),some (.ref fd)] from rfl]
 refine al fun N hN=>?_
 -- the row of the part itself
 have own:∀(S1:ar) (i1:Nat),BK fd S S1->S1 fd=some (.lst (fs++nums i ([(t,r)].filter fun p=>p.1.z_)))->i1=i+([(t,r)].filter fun p=>p.1.z_).length->N [some (.tup (.str t.hd::t.tl)),some (.int (i1:Int)),some (.ref hl),some (.bl r),some (.ref fd)] S1:=by
  intro S1 i1 X1 f1 ei
  have h11:=X1 _ _ h1 hne
  have Hy:([(t,r)].filter fun p=>p.1.z_).length<=1:=Ik (Kf _ _) (by simp)
  have Hz:=eO i ([(t,r)].filter fun p=>p.1.z_)
  refine hN _ _ (al fun N hN=>?_)
  simp only[bq,aU,ah,v3,lk,c3,ag,fu,bg,HZ,Ib]
  by_cases ho:t.hd=("often":Str)
  ·rw[if_pos ho]
   cases t with
   |A2 a=>
    simp only[Bd.dep]at hd
    simp only[Bd.size]at hsz
    simp only[Bd.hd,Bd.tl,ay,ad,ap,ah,v3,lk,c3,ag,jk]
    refine ih (by omega) hg hj hh h11 f1 hne (by rw[HL];omega) fun S2 X2 f2=>?_
    have er:(Bd.A2 a).rws (mq hs) r=([(Bd.A2 a,r)].filter fun p=>p.1.z_)++a.rws (mq hs) r:=rfl
    have:=k S2 (X1.trans X2) (by rw[f2,er,eN,JB,ei])
    rw[er,HL,<-Nat.add_assoc,<-ei]at this
    exact this
   |_=>simp[Bd.hd,aF]at ho
  rw[if_neg ho]
  simp only[aN]
  refine hN _ _ (al fun N hN=>?_)
  simp only[bq,aU,ah,v3,lk,c3,ag,fu,aB,ap]
  rw[show([PV.str "then",PV.str "either",PV.str "take"]:List PV)=(["then","either","take"]:Vs).map PV.str from rfl]
  refine bE t.Cd dB ?_
  rw[HZ]
  by_cases h3:t.hd∈(["then","either","take"]:Vs)
  ·rw[IU h3]
   simp only[IV]
   have sides:∀(hd2:List PV) (a b:Bd),(.str t.hd::t.tl)=hd2++[a.pv,b.pv]->AD (.str t.hd::t.tl) (-1)=some b.pv/\AD (.str t.hd::t.tl) (-2)=some a.pv:=fun hd2 a b e1=>⟨by rw[e1];have:=e7 (a:=a.pv) (b:=b.pv) (hd:=hd2) (i:=1) (.inr rfl);simpa using this,by rw[e1];have:=e7 (a:=a.pv) (b:=b.pv) (hd:=hd2) (i:=0) (.inl rfl);simpa using this⟩
   have both:∀(a b:Bd) (hd2:List PV) (r':Bool),(.str t.hd::t.tl)=hd2++[a.pv,b.pv]->a.dep<=n->b.dep<=n->t.size=a.size+b.size+1->a.good js us->b.good js us->t.rws (mq hs) r=([(t,r)].filter fun p=>p.1.z_)++(a.rws (mq hs) r'++b.rws (mq hs) r)->
     (∀(S1:ar) (Q1:bF),S1 hl=some (.lst (hs.map PV.str))->Q1 (.bl r') S1->bD (v3 3) (jG (ah (bg true) (ah ag (v3 0) (c3 (.int 0))) (c3 (.str "take"))) (ah (iM false) (ah ag (v3 0) (c3 (.int 1))) (v3 2))) [some (.tup (.str t.hd::t.tl)),some (.int (i1:Int)),some (.ref hl),some (.bl r),some (.ref fd)] S1 Q1 dD)->
     af (aq 1 (ad s0 [ah ag (v3 0) (fz bI (c3 (.int 2))),v3 1,v3 2,bD (v3 3) (jG (ah (bg true) (ah ag (v3 0) (c3 (.int 0))) (c3 (.str "take"))) (ah (iM false) (ah ag (v3 0) (c3 (.int 1))) (v3 2))),v3 4]))
      (ay (ad s0 [ah ag (v3 0) (fz bI (c3 (.int 1))),v3 1,v3 2,v3 3,v3 4])) { nx:=N,rt:=Q,ex:=dD } [some (.tup (.str t.hd::t.tl)),some (.int (i1:Int)),some (.ref hl),some (.bl r),some (.ref fd)] S1:=by
    intro a b hd2 r' e1 da db es ga gb et hr
    obtain⟨sb,sa⟩:=sides hd2 a b e1
    have hsa:=iR (mq hs) a r'
    have hna:=eO i1 (a.rws (mq hs) r')
    refine al fun N2 Bf=>?_
    simp only[aq,ap,ad,ah,fz,bI,v3,lk,c3,ag,sa]
    refine hr S1 _ h11 ?_
    refine ih da ga hj hh h11 f1 hne (by rw[HL];omega) fun S2 X2 f2=>?_
    refine Bf _ _ ?_
    simp only[ay,ap,ad,ah,fz,bI,v3,lk,c3,ag,sb,List.set_cons_zero,List.set_cons_succ]
    refine ih db gb hj hh (X2 _ _ h11 hne) f2 hne (by rw[HL,HL];omega) fun S3 X3 f3=>?_
    have:=k S3 (X1.trans (X2.trans X3)) (by rw[f3,et,eN,eN,<-ei,JB,JB])
    rw[et,HL,HL]at this
    have e9:i+(([(t,r)].filter fun p=>p.1.z_).length+((a.rws (mq hs) r').length+(b.rws (mq hs) r).length))=i1+(a.rws (mq hs) r').length+(b.rws (mq hs) r).length:=by omega
    rw[e9]at this
    exact this
   cases t with
   |zX a b=>
    simp only[Bd.dep]at hd
    refine both a b [.str "then"] r rfl (by omega) (by omega) rfl hg.1 hg.2 (by show((a.pr (mq hs) r++b.pr (mq hs) r).filter _)=_;rw[KN];rfl) fun S1 Q1 h1 q1=>?_
    have en:decide (("then":Str) = "take")=false:=by decide
    simp only[bD,jG,ah,v3,lk,c3,ag,fu,bg,Bd.hd,en,Jw,JK,IV]
    cases r
    ·exact q1
    ·exact q1
   |A3 a b=>
    simp only[Bd.dep]at hd
    refine both a b [.str "either"] r rfl (by omega) (by omega) rfl hg.1 hg.2 (by show(_::(a.pr (mq hs) r++b.pr (mq hs) r).filter _)=_;rw[KN];rfl) fun S1 Q1 h1 q1=>?_
    have en:decide (("either":Str) = "take")=false:=by decide
    simp only[bD,jG,ah,v3,lk,c3,ag,fu,bg,Bd.hd,en,Jw,JK,IV]
    cases r
    ·exact q1
    ·exact q1
   |AR z m a b=>
    simp only[Bd.dep]at hd
    refine both a b [.str "take",.str z,.int m] (r&&mq hs z) rfl (by omega) (by omega) rfl hg.2.2.2.1 hg.2.2.2.2 (by show(_::(a.pr (mq hs) (r&&mq hs z)++b.pr (mq hs) r).filter _)=_;rw[KN];rfl) fun S1 Q1 h1 q1=>?_
    simp only[bD,jG,ah,v3,lk,c3,ag,fu,jk,bg,Bd.hd,Bd.tl,Jp,Jw,Lb,Ie,IP]
    cases r
    ·exact q1
    ·simp only[IV]
     refine eY h1 (hj z hg.1) hh ?_
     rw[HZ]
     exact q1
   |_=>simp[Bd.hd,aF]at h3
  ·rw[Iu h3]
   simp only[Ie,IP,aN]
   refine hN _ _ ?_
   simp only[ay,v3,lk]
   have er:t.rws (mq hs) r=[(t,r)].filter fun p=>p.1.z_:=by cases t<;>first|rfl|exact absurd rfl ho|simp[Bd.hd]at h3
   have:=k S1 X1 (by rw[f1,er])
   rw[er,<-ei]at this
   exact this
 have e1:(t.hd≠("rest":Str)/\t.hd≠("then":Str))↔t.z_=true:=by cases t<;>simp[Bd.hd,aF,Bd.z_]
 simp only[bq,jF,aU,ah,v3,lk,c3,ag,fu,bg,Jw,Bool.not_eq_true',decide_eq_false_iff_not]
 by_cases hr:t.z_=true
 ·obtain⟨n1,n2⟩:=e1.mpr hr
  rw[if_pos n1,if_pos n2]
  have ef:([(t,r)].filter fun p=>p.1.z_)=[(t,r)]:=List.filter_cons_of_pos (p:=fun p:Bd×Bool=>p.1.z_) hr
  refine al fun N2 Bf=>?_
  simp only[bq,aU,v3,lk]
  cases r
  ·simp only[Ie,IP,aN]
   refine Bf _ _ ?_
   simp only[aq,ah,v3,lk,c3,aP,List.set_cons_zero,List.set_cons_succ]
   exact own S (i+1) .refl (by rw[ef,kl];simpa [nums]using h2) (by rw[ef];rfl)
  ·simp only[IV,aY,d9,mo,ap,v3,lk,h2,Kp,aZ]
   refine⟨Ic (show fs.length < 1000 by omega) (by decide),Bf _ _ ?_⟩
   simp only[aq,ah,v3,lk,c3,aP,List.set_cons_zero,List.set_cons_succ]
   exact own _ (i+1) .upd (by rw[aa,ef,kl];rfl) (by rw[ef];rfl)
 ·have ef:([(t,r)].filter fun p=>p.1.z_)=[]:=List.filter_cons_of_neg (p:=fun p:Bd×Bool=>p.1.z_) hr
  have hno:=own S i .refl (by rw[ef];simpa [nums]using h2) (by rw[ef];rfl)
  have HA:¬(t.hd≠("rest":Str)/\t.hd≠("then":Str)):=fun h=>hr (e1.mp h)
  by_cases n1:t.hd≠("rest":Str)
  ·rw[if_pos n1,if_neg (fun h=>HA ⟨n1,h⟩)];exact hno
  ·rw[if_neg n1];exact hno
def HG.of{js:Vs}{ds es:List (Str×Bd)}(h:HG js ds)(l:es.length<=1000)(hs:∀p∈es,∃q∈ds,p.2.good js []/\Er q.2 p.2):HG js es:=
 ⟨h.jw,h.jl,l,fun p hp=>by obtain⟨q,hq,g,k⟩:=hs p hp;exact g,fun p hp=>by obtain⟨q,hq,g,k⟩:=hs p hp;rw[k.dp];exact h.dp q hq,fun p hp=>by obtain⟨q,hq,g,k⟩:=hs p hp;rw[k.sz];exact h.sz q hq⟩
abbrev hU(w:aA):Prop:=∀{S:ar} {js:Vs} {ds:List (Str×Bd)} {Q:bF} {E:cz},HG js ds->
  (∀p (hs:List (List (Str×Bd))) S',S p=none->Ext S S'->S' p=some (.lst (hs.map (Av js)))->hs.length<=4->(∀h∈hs,HG js h)->Q (.ref p) S')->w [Av js ds] S Q E
def qM{xs:aA}(Dn:kT 6 xs):hU (Ab 6 (fJ xs)):=by
 intro S js ds Q E hP k
 unfold fJ
 refine fT ?_
 rw[show az 6 [Av js ds]=[some (.tup [.tup (js.map PV.str),.tup (ds.map dQ)]),none,none,none,none,none] from rfl]
 refine al fun N hN=>?_
 walk_at "x"
 refine hN _ _ (al fun N hN=>?_)
 walk_at "x"
 intro pk hpk
 have X0:Ext S (zS S pk (.lst [Av js ds])):=.new hpk
 have f0:(zS S pk (.lst [Av js ds])) pk=some (.lst ([ds].map (Av js))):=aa
 rw[show PV.tup [.tup (js.map PV.str),.tup (ds.map dQ)]=Av js ds from rfl]
 generalize zS S pk (.lst [Av js ds])=S0 at X0 f0
 refine hN _ _ (al fun N hN=>?_)
 -- what comes behind the first if
 have DT:∀(x4 x5:Option PV) (hs:List (List (Str×Bd))) (S1:ar),Ext S S1->S1 pk=some (.lst (hs.map (Av js)))->hs.length<=3->(∀h∈hs,HG js h)->N [some (Av js ds),some (.tup (js.map PV.str)),some (.tup (ds.map dQ)),some (.ref pk),x4,x5] S1:=by
  intro x4 x5 hs S1 X1 f1 l1 g1
  refine hN _ _ (al fun N hN=>?_)
  have last:∀(x4 x5:Option PV) (hs:List (List (Str×Bd))) (S1:ar),Ext S S1->S1 pk=some (.lst (hs.map (Av js)))->hs.length<=4->(∀h∈hs,HG js h)->N [some (Av js ds),some (.tup (js.map PV.str)),some (.tup (ds.map dQ)),some (.ref pk),x4,x5] S1:=by
   intro x4 x5 hs S1 X1 f1 l1 g1
   refine hN _ _ ?_
   walk_at "x"
   exact k pk hs S1 hpk X1 f1 l1 g1
  simp only[bq,aU,ah,am,ap,v3,lk,c3,bP,ms,dF,Ib,HM]
  split
  ·rename_i hj
   refine al fun N2 Bf=>?_
   obtain⟨ja,GO⟩:∃a,js[0]?=some a:=⟨js[0]'(by omega),Ig (by omega)⟩
   have Ga:AD (js.map PV.str) 0=some (.str ja):=jt (n:=0) (by rw[HY,GO];rfl)
   have hne:js≠[]:=fun h=>by rw[h]at hj;simp at hj
   obtain⟨jr,jb,GP⟩:∃r b,js=r++[b]:=⟨js.dropLast,js.getLast hne,(Kc hne).symm⟩
   have Gb:AD (js.map PV.str) (-1)=some (.str jb):=by rw[GP,Iz];exact lG
   simp only[aq,jg,fD,ah,v3,lk,c3,ag,fz,bI,Ga,Gb]
   intro pd Cj
   simp only[aa,Kp,j7,gL]
   have X2:Ext S1 (zS (zS S1 pd (.dct [])) pd (.dct (cJ [] [(.inr ja,.str jb),(.inr jb,.str ja)]))):=fun a o h=>by
    have n:a≠pd:=fun e=>by rw[e,Cj]at h;cases h
    rw[aj n,aj n];exact h
   have f2:(zS (zS S1 pd (.dct [])) pd (.dct (cJ [] [(.inr ja,.str jb),(.inr jb,.str ja)]))) pd=some (.dct (cJ [] [(.inr ja,.str jb),(.inr jb,.str ja)])):=aa
   generalize (zS (zS S1 pd (.dct [])) pd (.dct (cJ [] [(.inr ja,.str jb),(.inr jb,.str ja)])))=S2 at X2 f2
   have sw:=oF (js:=js) (a:=ja) (b:=jb) (Ir GO) (by rw[GP];simp)
   generalize cJ [] [(.inr ja,.str jb),(.inr jb,.str ja)]=kvs at f2 sw
   have Ev:=X2 _ _ f1
   have HB:=X1.trans X2
   refine Bf _ _ ?_
   simp only[List.set_cons_zero,List.set_cons_succ,aY,d9,mo,ap,aB,am,v3,lk,Ev,Kp,aR,a_,cj]
   refine bV (fun done ys S'=>S'=S2/\∃es:List (Str×Bd),ys=es.map dQ/\es.length=done.length/\done.length<=ds.length/\∀p∈es,∃q∈ds,p.2.good js []/\Er q.2 p.2) ⟨rfl,[],rfl,rfl,IA _,by simp⟩ ?_ ?_ ?_
   ·rintro done ys S' ⟨_,es,rfl,e,l,_⟩
    exact⟨trivial,bN (by rw[HM,e];have:=hP.dl;omega)⟩
   ·rintro done x rest ys S' K e ⟨rfl,es,rfl,e2,l,he⟩ hK
    obtain⟨q,hq,rfl⟩:∃q∈ds,dQ q=x:=ID.mp (by rw[e];simp)
    simp only[dQ,Tg.put,Tg.zV,dG,List.reduceReplicate,Io,Jb,List.cons_append,List.nil_append,List.set_cons_zero,List.set_cons_succ,lk,bQ,IV,aB,ap,ad,v3,List.getElem?_cons_zero,List.getElem?_cons_succ,Option.join]
    refine Dn (hP.dp q hq) (hP.gd q hq) f2 sw fun u gu ku=>hK _ _ ⟨rfl,es++[(q.1,u)],by rw[Iz];rfl,by rw[HL,HL,e2];rfl,?_,?_⟩
    ·have:(ds.map dQ).length=done.length+(rest.length+1):=by rw[e,HL,Ih]
     rw[HM]at this
     rw[HL,HX];omega
    ·intro p hp
     rcases HV.mp hp with h|h
     ·exact he p h
     ·rw[Ij.mp h];exact⟨q,hq,gu,ku⟩
   ·rintro ys S' ⟨rfl,es,rfl,e,_,he⟩ pl hpl
    rw[HM]at e
    simp only[aQ,iE,aa]
    have nk:pk≠pl:=fun h=>by rw[h,hpl]at Ev;cases Ev
    have hle:hs.length+1<=4:=by omega
    simp only[aZ,aj nk,Ev]
    refine⟨Ic (show(hs.map (Av js)).length < 5 by rw[HM];omega) (by decide),?_⟩
    refine last _ _ (hs++[es]) _ ((HB.trans (.new hpl)).put hpk) (by rw[aa,Iz];rfl) (by rw[HL];exact hle) fun h hh=>?_
    rcases HV.mp hh with hh|hh
    ·exact g1 h hh
    ·rw[Ij.mp hh];exact HG.of hP (by rw[e];exact hP.dl) he
  ·simp only[aN]
   exact last _ _ hs S1 X1 f1 (by omega) g1
 simp only[bq,aU,ah,am,ap,v3,lk,c3,bP,ms,dF,Ib,HM]
 split
 ·rename_i hd
  have hd':1 < ds.length:=by omega
  refine al fun N2 Bf=>?_
  simp only[aq,aR,a_,v3,lk,cj]
  have dl:=hP.dl
  refine e_ (fun p:Str×Bd=>dQ p) (fun p=>.str p.1) trivial ds [] (fun x hx=>⟨_,rfl,fun Q q=>q⟩) (by rw[Jo,J7];exact bN dl) ?_
  intro pn EB
  rw[Jm]
  have X1:Ext S0 (zS S0 pn (.lst (ds.map fun p=>.str p.1))):=.new EB
  have Fh:(zS S0 pn (.lst (ds.map fun p=>.str p.1))) pn=some (.lst (ds.map fun p=>.str p.1)):=aa
  generalize (zS S0 pn (.lst (ds.map fun p=>.str p.1)))=S1 at X1 Fh
  refine Bf _ _ (al fun N2 Bf=>?_)
  simp only[aq,aR,a_,v3,lk,cj,List.set_cons_zero,List.set_cons_succ]
  refine e_ (fun p:Str×Bd=>dQ p) (fun p=>p.2.pv) trivial ds [] (fun x hx=>⟨_,rfl,fun Q q=>q⟩) (by rw[Jo,J7];exact bN dl) ?_
  intro pb Es
  rw[Jm]
  have X2:Ext S1 (zS S1 pb (.lst (ds.map fun p=>p.2.pv))):=.new Es
  have EY:(zS S1 pb (.lst (ds.map fun p=>p.2.pv))) pb=some (.lst (ds.map fun p=>p.2.pv)):=aa
  have Gc:=X2 _ _ Fh
  generalize (zS S1 pb (.lst (ds.map fun p=>p.2.pv)))=S2 at X2 EY Gc
  refine Bf _ _ ?_
  have Ev:=X2 _ _ (X1 _ _ f0)
  have HC:=X0.trans (X1.trans X2)
  simp only[List.set_cons_zero,List.set_cons_succ,aY,d9,mo,ap,aB,bm,qr,ah,bf,kK,jH,kL,c3,fz,bI,v3,lk,Ev,Gc,EY,Kp]
  intro p1 hp1
  have n1:pb≠p1:=fun h=>by rw[h,hp1]at EY;cases EY
  simp only[aj n1,EY]
  intro p2 hp2
  have hp2':S2 p2=none:=by
   by_cases e:p2=p1
   ·rw[e,aa]at hp2;cases hp2
   ·rw[aj e]at hp2;exact hp2
  have HD:p1≠p2:=fun h=>by rw[<-h,aa]at hp2;cases hp2
  simp only[aP,aa,aj HD]
  have hlb:1<=(ds.map fun p=>p.2.pv).length:=by rw[HM];omega
  have GQ:dg (ds.map fun p=>p.2.pv) (some 1) none=((ds.map Prod.snd).drop 1).map Bd.pv:=by rw[show(1:Int)=((1:Nat):Int)from rfl,vP hlb,List.map_drop,JH];rfl
  have HE:dg (ds.map fun p=>p.2.pv) none (some 1)=((ds.map Prod.snd).take 1).map Bd.pv:=by rw[show(1:Int)=((1:Nat):Int)from rfl,jq hlb,Kd,JH];rfl
  simp only[GQ,HE]
  have GR:((ds.map Prod.snd).drop 1).length+((ds.map Prod.snd).take 1).length=ds.length:=by simp only[IQ,IG,HM];omega
  refine⟨bN (by rw[HM,HM,GR];exact dl),?_⟩
  intro p3 hp3
  rw[<-Iz] 
  have X3:Ext S2 (zS (zS (zS S2 p1 (.lst (((ds.map Prod.snd).drop 1).map Bd.pv))) p2 (.lst (((ds.map Prod.snd).take 1).map Bd.pv))) p3 (.lst (((ds.map Prod.snd).drop 1++(ds.map Prod.snd).take 1).map Bd.pv))):=(Ext.new hp1).trans ((Ext.new (by rw[GQ]at hp2;exact hp2)).trans (.new hp3))
  have f3:(zS (zS (zS S2 p1 (.lst (((ds.map Prod.snd).drop 1).map Bd.pv))) p2 (.lst (((ds.map Prod.snd).take 1).map Bd.pv))) p3 (.lst (((ds.map Prod.snd).drop 1++(ds.map Prod.snd).take 1).map Bd.pv))) p3=some (.lst (((ds.map Prod.snd).drop 1++(ds.map Prod.snd).take 1).map Bd.pv)):=aa
  generalize zS (zS (zS S2 p1 (.lst (((ds.map Prod.snd).drop 1).map Bd.pv))) p2 (.lst (((ds.map Prod.snd).take 1).map Bd.pv))) p3 (.lst (((ds.map Prod.snd).drop 1++(ds.map Prod.snd).take 1).map Bd.pv))=S3 at X3 f3
  have Ab:=X3 _ _ Gc
  have Gd:=X3 _ _ Ev
  simp only[Ab,f3]
  refine⟨by rw[HM,HM,HL,GR],by rw[HM];omega,?_⟩
  have ez:bc (ds.map fun p=>PV.str p.1) (((ds.map Prod.snd).drop 1++(ds.map Prod.snd).take 1).map Bd.pv)=((ds.map Prod.fst).zip ((ds.map Prod.snd).drop 1++(ds.map Prod.snd).take 1)).map dQ:=by
   unfold bc
   rw[show(ds.map fun p=>PV.str p.1)=(ds.map Prod.fst).map PV.str by rw[JH];rfl,List.zip_map,JH]
   rfl
  rw[ez,vQ,<-Kd]
  intro p4 C5
  have n4:pk≠p4:=fun h=>by rw[h,C5]at Gd;cases Gd
  simp only[bT,aa,aj n4,Gd]
  refine⟨bN (by simp),?_⟩
  refine DT _ _ [ds,ds.take (ds.length - 1),(ds.map Prod.fst).zip ((ds.map Prod.snd).drop 1++(ds.map Prod.snd).take 1)] _ ((HC.trans (X3.trans (.new C5))).put hpk) (by rw[aa,HM];rfl) (by simp) fun h hh=>?_
  simp only[HW,Il,Jc]at hh
  rcases hh with rfl|rfl|rfl
  ·exact hP
  ·exact HG.of hP (Ik (List.length_take_le _ _) (by omega)) fun p hp=>⟨p,IW hp,hP.gd p (IW hp),.refl _⟩
  ·refine HG.of hP (by rw[List.length_zip,HM];omega) fun p hp=>?_
   have h2:=(Lf hp).2
   have h3:p.2∈ds.map Prod.snd:=by
    rcases HV.mp h2 with h|h
    ·exact Km h
    ·exact IW h
   obtain⟨q,hq,e⟩:=ID.mp h3
   exact⟨q,hq,by rw[<-e];exact hP.gd q hq,by rw[<-e];exact .refl _⟩
 ·simp only[aN]
  exact DT _ _ [ds] S0 X0 f0 (by simp) fun h hh=>by rw[Ij.mp hh];exact hP
end C
namespace G27
open PySem L2 L3
noncomputable def bA(i:Nat):Stmt:=PySem.Challenge.pw_dueworth_k27_rows_come_to.main.body.getD i (.Pass ⟨0,0,0,0⟩)
structure Txt (P:Program) (w:World) (K:Vo) (mg:Vr):Prop where
 o_sides_of:bt K mg "sides_of" (bA 2) ["body"]
 o_parts_in:bt K mg "parts_in" (bA 3) ["body"]
 o_parts:bt K mg "parts" (bA 4) ["body"]
 o_has_row:bt K mg "has_row" (bA 6) ["part"]
 o_plain_trace:bt K mg "plain_trace" (bA 8) ["body"]
 o_led_to_part:bt K mg "led_to_part" (bA 9) ["body","place","trace"]
 o_parts_reached:lz K mg "parts_reached" (bA 11) ["body","names","reached"]
 o_next_step:bt K mg "next_step" (bA 12) ["house","names"]
 o_filling:bt K mg "filling" (bA 13) ["house"]
 o_fillable:bt K mg "fillable" (bA 14) ["house"]
 o_rows_of_body:bt K mg "rows_of_body" (bA 16) ["body","names"]
 o_rows_come_to:bt K mg "rows_come_to" (bA 17) ["house"]
 o__law_deal:bt K mg "_law_deal" (bA 19) ["_law_script","_law_base"]
 o__law_draw:bt K mg "_law_draw" (bA 20) ["_law_deal_here","_law_many"]
 o__law_words:bt K mg "_law_words" (bA 21) ["_law_deal_here","_law_many"]
 o__law_low:bt K mg "_law_low" (bA 22) ["_law_top","_law_bottom"]
 o__law_cost:bt K mg "_law_cost" (bA 23) ["_law_deal_here"]
 o__law_leaf:bt K mg "_law_leaf" (bA 24) ["_law_deal_here","_law_jars"]
 o__law_body:bt K mg "_law_body" (bA 25) ["_law_deal_here","_law_jars","_law_left","_law_down"]
 o__law_pass_count:bt K mg "_law_pass_count" (bA 26) ["_law_body_here"]
 o__law_round_count:bt K mg "_law_round_count" (bA 27) ["_law_body_here"]
 o__law_deed_body:bt K mg "_law_deed_body" (bA 28) ["_law_deal_here","_law_jars","_law_most_parts","_law_most_lines"]
 o__law_house:bt K mg "_law_house" (bA 29) ["_law_deal_here","_law_most_jars","_law_most_deeds","_law_most_parts"]
 o__law_puts:bt K mg "_law_puts" (bA 30) ["_law_body_here","_law_held","_law_found"]
 o__law_fillable:bt K mg "_law_fillable" (bA 31) ["_law_house_here"]
 o__law_alike:bt K mg "_law_alike" (bA 32) ["_law_found","_law_due"]
 o__law_walk:bt K mg "_law_walk" (bA 33) ["_law_body_here","_law_at","_law_held","_law_there","_law_found"]
 o__law_chain:bt K mg "_law_chain" (bA 34) ["_law_deal_here"]
 o__law_wide_house:bt K mg "_law_wide_house" (bA 35) ["_law_deal_here"]
 o__law_swapped:bt K mg "_law_swapped" (bA 36) ["_law_body_here","_law_names"]
 o__law_kin:bt K mg "_law_kin" (bA 37) ["_law_house_here"]
 o__law_right:bt K mg "_law_right" (bA 38) ["_law_house_here"]
 DU:mg "all" = none
 Do:mg "bool" = none
 Ar:mg "enumerate" = none
 Ac:mg "isinstance" = none
 AT:mg "len" = none
 Cm:mg "list" = none
 DV:mg "max" = none
 BL:mg "range" = none
 CM:mg "reversed" = none
 Ad:mg "tuple" = none
 DW:mg "zip" = none
 Cn:∃a,mg "SIDES_FROM" = some (.ref a)/\KD P w K a (C.k_SIDES_FROM.map fun kv=>(kv.1,V.int kv.2))
section
variable {P:Program} {w:World} {K:Vo} {mg:Vr} {base:Heap}
def yY:(["step","house"]:Vs).Nodup:=by decide +kernel
def yZ:(["found"]:Vs).Nodup:=by decide +kernel
def xD:(["row","found"]:Vs).Nodup:=by decide +kernel
def y3:(["deed","names"]:Vs).Nodup:=by decide +kernel
def xE:(["_law_one"]:Vs).Nodup:=by decide +kernel
def y7:(["_law_k","_law_deal_here","_law_letters"]:Vs).Nodup:=by decide +kernel
def y8:(["_law_j","_law_deal_here","_law_letters"]:Vs).Nodup:=by decide +kernel
def y9:(["_law_k","_law_deal_here","_law_first","_law_jars","_law_many","_law_most_parts","_law_words_here"]:Vs).Nodup:=by decide +kernel
def xF:(["_law_one","_law_other"]:Vs).Nodup:=by decide +kernel
def y_:(["_law_jar","_law_deal_here","_law_left"]:Vs).Nodup:=by decide +kernel
def t4:(["_law_k","_law_body_here","_law_words_here"]:Vs).Nodup:=by decide +kernel
def xG:(["_law_k","_law_deal_here","_law_first","_law_jars","_law_words_here"]:Vs).Nodup:=by decide +kernel
def np:(["_law_name","_law_body_here"]:Vs).Nodup:=by decide +kernel
def t5:(["_law_name","_law_body_here","_law_names"]:Vs).Nodup:=by decide +kernel
def xH:(["_law_house_here"]:Vs).Nodup:=by decide +kernel
def dU:aA:=Ab 1 C.fF
def iw(T:Txt P w K mg):Bm P w K mg base 1 "sides_of" 1 dU:=fK ["body"] T.o_sides_of (fun _ _ _ _ _ _ _ hr nd=>(ak (au (bG (ae 0) (b6 (zI hr T.Cn (bn hr (ae 0)) (cB cG T.AT (l1 (ae 0))))) cF)))) rfl
noncomputable def dW:Nat->aA
 |0=>mz
 |n+1=>Ab 3 (C.fG dU (dW n))
def jy:aA:=dW 12
def lH(T:Txt P w K mg):Bm P w K mg base 13 "parts_in" 1 jy:=ji (b:=1) (r:=dW) T.o_parts_in (fun n R0=>fK ["body","found","side"] T.o_parts_in (fun _ _ _ _ _ _ _ hr nd=>(ab (s4 1 nd (bh (l1 (ae 0))))
  (ab (ft II rfl (cH (c4 (iw T) hr (l1 (ae 0)))) (gn 2 nd) (ak (bB (lQ gV jc (ae 1) (l1 (c4 R0 hr (l1 (ae 2))))))))
  (ak (au (ae 1)))))) rfl) rfl rfl 12
def kW:aA:=Ab 1 (C.kP jy)
def qN(T:Txt P w K mg):Bm P w K mg base 14 "parts" 1 kW:=fK ["body"] T.o_parts (fun _ _ _ _ _ _ _ hr nd=>(ak (au (cB cG T.AT (l1 (c4 (lH T) hr (l1 (ae 0)))))))) rfl
def hV:aA:=Ab 1 C.gS
def mE(T:Txt P w K mg):Bm P w K mg base 1 "has_row" 1 hV:=fK ["part"] T.o_has_row (fun _ _ _ _ _ _ _ hr nd=>(ak (au (fo (i5 (eg hr)) (bn hr (ae 0)) (aC (lc ao (l1 ao))) rfl)))) rfl
noncomputable def cf:Nat->aA
 |0=>mz
 |n+1=>Ab 1 (C.dh (cf n))
def fw:aA:=cf 12
def eP(T:Txt P w K mg):Bm P w K mg base 12 "plain_trace" 1 fw:=ji (b:=0) (r:=cf) T.o_plain_trace (fun n R0=>fK ["body"] T.o_plain_trace (fun _ _ _ _ _ _ _ hr nd=>(ab (bd (gC hr (bn hr (ae 0)) ao) (ak (au (aC (lc (c4 R0 hr (l1 (bn hr (ae 0)))) (l1 (c4 R0 hr (l1 (bn hr (ae 0))))))))) aI)
  (ab (bd (gC hr (bn hr (ae 0)) ao) (ak (au (aC (lc ac (l1 (c4 R0 hr (l1 (bn hr (ae 0))))))))) aI)
  (ab (bd (gC hr (bn hr (ae 0)) ao) (ak (au (aC (lc ac (l1 (c4 R0 hr (l1 (bn hr (ae 0))))))))) aI)
  (ak (au (aC cW))))))) rfl) rfl rfl 12
noncomputable def cg:Nat->aA
 |0=>mz
 |n+1=>Ab 8 (C.di kW fw (cg n))
def fx:aA:=cg 12
def jz(T:Txt P w K mg):Bm P w K mg base 26 "led_to_part" 3 fx:=ji (b:=14) (r:=cg) T.o_led_to_part (fun n R0=>fK ["body","place","trace","one","other","second","side","inner"] T.o_led_to_part (fun _ _ _ _ _ _ _ hr nd=>(ab (bd (gC hr (ae 1) ac) (ak (au (ae 2))) aI)
  (ab (bd (gC hr (bn hr (ae 0)) ao) (ak (au (aC (l1 (aC (lc ac (l1 (c4 R0 hr (lc (bn hr (ae 0)) (lc (aE d4 (ae 1) ac) (l1 (ae 2)))))))))))) aI)
  (ab (s4 3 nd (d5 hr (ae 0) (fA bJ ac)))
  (ab (s4 4 nd (d5 hr (ae 0) (fA bJ ac)))
  (ab (s4 5 nd (aE aD ac (c4 (qN T) hr (l1 (ae 3)))))
  (ab (s4 6 nd (tS (bi mv (ae 1) (ae 5) (aW _)) ac ac))
  (ab (s4 7 nd (tS (gC hr (ae 6) ac) (c4 R0 hr (lc (ae 3) (lc (aE d4 (ae 1) ac) (l1 (ae 2))))) (c4 R0 hr (lc (ae 4) (lc (aE d4 (ae 1) (ae 5)) (l1 (ae 2)))))))
  (ab (bd (v1 hr (bn hr (ae 0)) ao) (ak (au (aC (lc (ae 6) (l1 (ae 7)))))) aI)
  (ab (bd (gC hr (ae 6) ac) (ak (au (aC (lc (ae 7) (l1 (c4 (eP T) hr (l1 (ae 4)))))))) aI)
  (ak (au (aC (lc (c4 (eP T) hr (l1 (ae 3))) (l1 (ae 7)))))))))))))))) rfl) rfl rfl 12
noncomputable def bH:Nat->aA
 |0=>mz
 |n+1=>Ab 7 (C.cp dU (bH n))
def cq:aA:=bH 12
def dC(T:Txt P w K mg):DF P w K mg base 13 "parts_reached" 3 cq:=xx (b:=1) (r:=bH) T.o_parts_reached (fun n R0=>zJ ["body","names","reached","found","number","side","shut"] T.o_parts_reached (fun _ _ _ _ _ _ _ hr nd=>(ab (s4 3 nd (bh (l1 (aC (lc (ae 0) (l1 (ae 2)))))))
  (ab (ft II rfl (gQ rfl rfl T.Ar (by decide +kernel) (l1 (c4 (iw T) hr (l1 (ae 0))))) (oa rfl (aS (gn 4 nd) (aS (gn 5 nd) dz))) (ab (s4 6 nd (j3 (fo (i4 (gg hr)) (bn hr (ae 0)) ao (aW _)) (j3 (fo (i4 (gg hr)) (ae 4) ac (aW _)) (j2 (fo (i5 (eg hr)) (bn hr (ae 0)) (ae 1) rfl)))))
  (ak (bB (lQ gV jc (ae 3) (l1 (zK R0 hr (lc (ae 5) (lc (ae 1) (l1 (j3 (ae 2) (j2 (wW (ae 6))))))))))))))
  (ak (au (ae 3)))))) rfl) rfl rfl 12
def eQ:aA:=Ab 7 (C.eF cq fx)
def gw(T:Txt P w K mg):Bm P w K mg base 27 "next_step" 2 eQ:=fK ["house","names","d","deed","place","found","part"] T.o_next_step (fun _ _ _ _ _ _ _ hr nd=>(ab (ft II rfl (gQ rfl rfl T.Ar (by decide +kernel) (l1 (bn hr (ae 0)))) (oa rfl (aS (gn 2 nd) (aS (gn 3 nd) dz))) (ak (ft II rfl (gQ rfl rfl T.Ar (by decide +kernel) (l1 (cD (dC T) hr (lc (bn hr (ae 3)) (l1 (ae 1)))))) (oa rfl (aS (gn 4 nd) (aS (gn 5 nd) dz))) (ab (s4 6 nd (bn hr (ae 5)))
  (ak (bd (pV (mZ (j0 (bn hr (ae 5))) (mZ (gC hr (bn hr (ae 6)) ao) (me (bi (i5 (eg hr)) (bn hr (ae 6)) (ae 1) rfl))))) (ak (au (aC (lc (xv PySem.F.plainAttrs_tuple PySem.F.slot_tuple_index PySem.F.type_tuple_index qt rfl (bn hr (ae 0)) (l1 (bn hr (ae 6)))) (lc (ae 2) (l1 (c4 (jz T) hr (lc (bn hr (ae 3)) (lc (ae 4) (l1 (aC cW))))))))))) aI))))))
  (ak (au tR)))) rfl
def km:aA:=Ab 4 (C.gU eQ)
def mF(T:Txt P w K mg):Bm P w K mg base 28 "filling" 1 km:=fK ["house","found","names","step"] T.o_filling (fun _ _ _ _ _ _ _ hr nd=>(ab (s4 1 nd (bh cW))
  (ab (s4 2 nd (bh cW))
  (ab (s4 3 nd (c4 (gw T) hr (lc (ae 0) (l1 (ae 2)))))
  (ab (iO II (bi pW (ae 3) tR (aW _)) (ab (bB (lQ bM ci (ae 1) (l1 (ae 3))))
  (ab (bB (lQ bM ci (ae 2) (l1 (d5 hr (bn hr (ae 0)) (bn hr (ae 3))))))
  (ak (s4 3 nd (c4 (gw T) hr (lc (ae 0) (l1 (ae 2)))))))))
  (ak (au (ae 1)))))))) rfl
def fP:aA:=Ab 1 (C.fI km)
def lI(T:Txt P w K mg):Bm P w K mg base 29 "fillable" 1 fP:=fK ["house"] T.o_fillable (fun _ _ _ _ _ _ _ hr nd=>(ak (au (qw ["house"] 1 [0] ["step","house"] (cH (c4 (mF T) hr (l1 (ae 0)))) (fun _=>(gn 0 yY)) (fun _=>cX) (fun _=>(d5 hr (bn hr (ae 1)) (bn hr (ae 0)))))))) rfl
def cP:aA:=Ab 4 (C.cL cq hV)
def iG(T:Txt P w K mg):Bm P w K mg base 14 "rows_of_body" 2 cP:=fK ["body","names","rows","come_to"] T.o_rows_of_body (fun _ _ _ _ _ _ _ hr nd=>(ab (v5 [] 1 [] ["found"] 2 nd (cH (cD (dC T) hr (lc (ae 0) (l1 (ae 1))))) (fun _=>(gn 0 yZ)) (fun _=>(qi (j0 (c4 (mE T) hr (l1 (bn hr (ae 0))))))) (fun _=>(ae 0)))
  (ab (v5 [] 2 [] ["row","found"] 3 nd (gQ rfl rfl T.Ar (by decide +kernel) (l1 (ae 2))) (fun _=>(oa rfl (aS (gn 0 xD) (aS (gn 1 xD) dz)))) (fun _=>(qi (j0 (bn hr (ae 1))))) (fun _=>(ae 0)))
  (ak (au (cT bS T.Ad (l1 (aE aD (ae 3) (bh (l1 (cB cG T.AT (l1 (ae 2))))))))))))) rfl
def cQ:aA:=Ab 2 (C.cM fP cP)
def iH(T:Txt P w K mg):Bm P w K mg base 30 "rows_come_to" 1 cQ:=fK ["house","names"] T.o_rows_come_to (fun _ _ _ _ _ _ _ hr nd=>(ab (s4 1 nd (c4 (lI T) hr (l1 (ae 0))))
  (ak (au (cT bS T.Ad (l1 (qw ["names"] 1 [1] ["deed","names"] (cH (bn hr (ae 0))) (fun _=>(gn 0 y3)) (fun _=>cX) (fun _=>(c4 (iG T) hr (lc (bn hr (ae 0)) (l1 (ae 1)))))))))))) rfl
def iz:aA:=Ab 5 C.eu
def gx(T:Txt P w K mg):Bm P w K mg base 1 "_law_deal" 2 iz:=fK ["_law_script","_law_base","_law_one","_law_some","_law_number"] T.o__law_deal (fun _ _ _ _ _ _ _ hr nd=>(ab (v5 [] 1 [] ["_law_one"] 3 nd (cH (bG (ae 0) (b6 (ae 1)) (b6 ac))) (fun _=>(gn 0 xE)) (fun _=>cX) (fun _=>(cB (pZ rfl) T.DV (lc (ae 0) (l1 (aE d4 ac (ae 0)))))))
  (ab (s4 4 nd (aE aD ac (ae 1)))
  (ab (ft II rfl (cH (ae 3)) (gn 2 nd) (ak (s4 4 nd (aE ed (aE aD (aE fB (ae 4) ac) (aE ed (ae 2) ac)) ac))))
  (ak (au (qm (gf ao (ae 4) (gf ao ac (gf ao (vx nW rfl (qw [] 1 [] ["_law_one"] (cH (ae 3)) (fun _=>(gn 0 xE)) (fun _=>(qi (bi yR (ae 0) (aE xm ac ac) (aW _)))) (fun _=>(ae 0))) rfl T.Cm rfl T.CM) qk)))))))))) rfl
def w__law_draw:aA:=Ab 5 C.eA
def ai(T:Txt P w K mg):Bm P w K mg base 1 "_law_draw" 2 w__law_draw:=fK ["_law_deal_here","_law_many","_law_number","_law_one","_law_other"] T.o__law_draw (fun _ _ _ _ _ _ _ hr nd=>(ab (iO II (pV (mZ (gC hr (d5 hr (ae 0) ao) ac) (me (bi mw (cB cG T.AT (l1 (d5 hr (ae 0) ao))) ac (aW _))))) (ak (lr (q9 hr) (yX qu tW (d5 hr (ae 0) ao)) (ae 0) ao)))
  (ab (s4 2 nd (d5 hr (ae 0) ao))
  (ab (bd (bi mw (ae 2) ac (aW _)) (ab (lr (q9 hr) (aE kO (ae 2) (ae 1)) (ae 0) ao)
  (ak (au (aE ed (ae 2) (ae 1))))) aI)
  (ab (s4 3 nd (aE ed (aE aD (aE fB (d5 hr (ae 0) ao) ac) ac) ac))
  (ab (lr (q9 hr) (aE ed (aE aD (aE fB (ae 3) ac) ac) ac) (ae 0) ao)
  (ab (s4 4 nd (aE ed (aE fB (d5 hr (ae 0) ao) (d5 hr (ae 0) ao)) ac))
  (ak (au (aE ed (aE aD (aE fB (aE ed (aE fB (ae 3) (ae 3)) ac) ac) (ae 4)) (ae 1))))))))))) rfl
def bW:aA:=Ab 11 (C.dH w__law_draw)
def dj(T:Txt P w K mg):Bm P w K mg base 2 "_law_words" 2 bW:=fK ["_law_deal_here","_law_many","_law_letters","_law_taken","_law_k","_law_core","_law_at","_law_turn","_law_near","_law_found","_law_name"] T.o__law_words (fun _ _ _ _ _ _ _ hr nd=>(ab (s4 2 nd ao)
  (ab (s4 3 nd (bh (lc ao (lc ao (lc ao (lc ao (lc ao (lc ao (lc ao (lc ao (lc ao (l1 ao))))))))))))
  (ab (s4 5 nd (lQ m_ qc ao (l1 (qw ["_law_letters","_law_deal_here"] 1 [0,2] ["_law_k","_law_deal_here","_law_letters"] (d_ rfl rfl T.BL (l1 (c4 (ai T) hr (lc (ae 0) (l1 ac))))) (fun _=>(gn 0 y7)) (fun _=>cX) (fun _=>(d5 hr (ae 2) (c4 (ai T) hr (lc (ae 1) (l1 ac)))))))))
  (ab (sD (i:=6) (j:=7) (k:=8) rfl nd rfl rfl rfl rfl rfl rfl (aC (lc (c4 (ai T) hr (lc (ae 0) (l1 (aE aD (cB cG T.AT (l1 (ae 5))) ac)))) (lc (c4 (ai T) hr (lc (ae 0) (l1 ac))) (l1 (fo (i4 (gg hr)) (c4 (ai T) hr (lc (ae 0) (l1 ac))) ac (aW _)))))))
  (ab (s4 9 nd (bh cW))
  (ab (ft II rfl (d_ rfl rfl T.BL (l1 (ae 1))) (gn 4 nd) (ab (s4 10 nd (aE aD (aE aD (bG (ae 5) cF (b6 (ae 6))) (d5 hr (ae 2) (aE ed (aE aD (ae 7) (ae 4)) ac))) (bG (ae 5) (b6 (ae 6)) cF)))
  (ab (bd (wV (j0 (ae 8))) (ak (s4 10 nd (lQ m_ qc ao (l1 (qw ["_law_letters","_law_deal_here"] 1 [0,2] ["_law_j","_law_deal_here","_law_letters"] (d_ rfl rfl T.BL (l1 (aE aD ac (c4 (ai T) hr (lc (ae 0) (l1 ac)))))) (fun _=>(gn 0 y8)) (fun _=>cX) (fun _=>(d5 hr (ae 2) (c4 (ai T) hr (lc (ae 1) (l1 ac)))))))))) aI)
  (ab (iO II (pV (kH (bi (ip (eg hr)) (ae 10) (ae 3) rfl) (im (bi (ip (eg hr)) (ae 10) (ae 9) rfl)))) (ak (s4 10 nd (aE aD (d5 hr (ae 2) (aE ed (aE aD (lQ qv sC (ae 2) (l1 (bn hr (ae 10)))) ac) ac)) (bG (ae 10) (b6 ac) cF)))))
  (ak (bB (lQ bM ci (ae 9) (l1 (ae 10)))))))))
  (ak (au (ae 9)))))))))) rfl
def fQ:aA:=Ab 4 C.fE
def lJ(T:Txt P w K mg):Bm P w K mg base 1 "_law_low" 2 fQ:=fK ["_law_top","_law_bottom","_law_one","_law_other"] T.o__law_low (fun _ _ _ _ _ _ _ hr nd=>(ab (tX (i:=2) (j:=3) rfl nd rfl rfl (by decide) rfl rfl (lc (cB (pZ rfl) T.DV (lc (ae 0) (l1 (aE d4 ac (ae 0))))) (l1 (ae 1))))
  (ab (iO II (bi mw (ae 3) ac (aW _)) (ak (tX (i:=2) (j:=3) rfl nd rfl rfl (by decide) rfl rfl (lc (ae 3) (l1 (aE ed (ae 2) (ae 3)))))))
  (ak (au (aC (lc (aE kO (ae 0) (ae 2)) (l1 (aE kO (ae 1) (ae 2)))))))))) rfl
def eR:aA:=Ab 2 (C.eB w__law_draw fQ)
def kX(T:Txt P w K mg):Bm P w K mg base 2 "_law_cost" 1 eR:=fK ["_law_deal_here","_law_form"] T.o__law_cost (fun _ _ _ _ _ _ _ hr nd=>(ab (s4 1 nd (c4 (ai T) hr (lc (ae 0) (l1 ac))))
  (ab (bd (gC hr (ae 1) ac) (ak (au (aC (lc ac (l1 ac))))) aI)
  (ab (bd (bi mv (ae 1) ac (aW _)) (ak (au (aC (lc (aE aD ac (c4 (ai T) hr (lc (ae 0) (l1 ac)))) (l1 ac))))) aI)
  (ak (au (c4 (lJ T) hr (lc (c4 (ai T) hr (lc (ae 0) (l1 ac))) (l1 (aE aD ac (c4 (ai T) hr (lc (ae 0) (l1 ac))))))))))))) rfl
def bO:aA:=Ab 4 (C.ck w__law_draw eR)
def bx(T:Txt P w K mg):Bm P w K mg base 3 "_law_leaf" 2 bO:=fK ["_law_deal_here","_law_jars","_law_form","_law_many"] T.o__law_leaf (fun _ _ _ _ _ _ _ hr nd=>(ab (s4 2 nd (c4 (ai T) hr (lc (ae 0) (l1 ac))))
  (ab (bd (gC hr (ae 2) ac) (ak (au (aC (l1 ao)))) aI)
  (ab (bd (pV (kH (bi mv (ae 2) ac (aW _)) (im (gC hr (cB cG T.AT (l1 (ae 1))) ac)))) (ak (au (aC (lc ao (l1 (c4 (kX T) hr (l1 (ae 0)))))))) aI)
  (ab (s4 3 nd (d5 hr (bh (lc ac (lc ac (l1 (aE aD ac (c4 (ai T) hr (lc (ae 0) (l1 ac)))))))) (c4 (ai T) hr (lc (ae 0) (l1 ac)))))
  (ak (au (aC (lc ao (lc (d5 hr (ae 1) (c4 (ai T) hr (lc (ae 0) (l1 (cB cG T.AT (l1 (ae 1))))))) (l1 (ae 3)))))))))))) rfl
noncomputable def cZ:Nat->aA
 |0=>mz
 |n+1=>Ab 8 (C.eC w__law_draw bO (cZ n))
def eU:aA:=cZ 12
def gy(T:Txt P w K mg):Bm P w K mg base 15 "_law_body" 4 eU:=ji (b:=3) (r:=cZ) T.o__law_body (fun n R0=>fK ["_law_deal_here","_law_jars","_law_left","_law_down","_law_form","_law_one","_law_other","_law_many"] T.o__law_body (fun _ _ _ _ _ _ _ hr nd=>(ab (s4 4 nd (c4 (ai T) hr (lc (ae 0) (l1 ac))))
  (ab (bd (pV (kH (gC hr (ae 3) ac) (kH (bi mv (bn hr (ae 2)) ac (aW _)) (im (bi mv (ae 4) ac (aW _)))))) (ak (au (c4 (bx T) hr (lc (ae 0) (l1 (ae 1)))))) aI)
  (ab (bd (bi mv (ae 4) ac (aW _)) (ab (lr (q9 hr) (aE d4 (bn hr (ae 2)) ac) (ae 2) ac)
  (ak (au (aC (lc ao (l1 (c4 R0 hr (lc (ae 0) (lc (ae 1) (lc (ae 2) (l1 (aE d4 (ae 3) ac)))))))))))) aI)
  (ab (lr (q9 hr) (aE d4 (bn hr (ae 2)) ac) (ae 2) ac)
  (ab (s4 5 nd (c4 R0 hr (lc (ae 0) (lc (ae 1) (lc (ae 2) (l1 (aE d4 (ae 3) ac)))))))
  (ab (s4 6 nd (c4 R0 hr (lc (ae 0) (lc (ae 1) (lc (ae 2) (l1 (aE d4 (ae 3) ac)))))))
  (ab (bd (bi mv (ae 4) ac (aW _)) (ak (au (aC (lc ao (lc (ae 5) (l1 (ae 6))))))) aI)
  (ab (bd (pV (kH (gC hr (ae 4) ac) (im (gC hr (cB cG T.AT (l1 (ae 1))) ac)))) (ak (au (aC (lc ao (lc (ae 5) (l1 (ae 6))))))) aI)
  (ab (s4 7 nd (d5 hr (bh (lc ac (lc ac (lc ac (l1 (aE aD ac (c4 (ai T) hr (lc (ae 0) (l1 ac))))))))) (c4 (ai T) hr (lc (ae 0) (l1 ac)))))
  (ak (au (aC (lc ao (lc (d5 hr (ae 1) (c4 (ai T) hr (lc (ae 0) (l1 (cB cG T.AT (l1 (ae 1))))))) (lc (ae 7) (lc (ae 5) (l1 (ae 6))))))))))))))))))) rfl) rfl rfl 12
noncomputable def bo:Nat->aA
 |0=>mz
 |n+1=>Ab 1 (C.bU (bo n))
def bp:aA:=bo 12
def cR(T:Txt P w K mg):Bm P w K mg base 12 "_law_pass_count" 1 bp:=ji (b:=0) (r:=bo) T.o__law_pass_count (fun n R0=>fK ["_law_body_here"] T.o__law_pass_count (fun _ _ _ _ _ _ _ hr nd=>(ab (bd (gC hr (bn hr (ae 0)) ao) (ak (au (aE fB (c4 R0 hr (l1 (bn hr (ae 0)))) (c4 R0 hr (l1 (bn hr (ae 0))))))) aI)
  (ab (bd (pV (kH (gC hr (bn hr (ae 0)) ao) (im (gC hr (bn hr (ae 0)) ao)))) (ak (au (aE aD (c4 R0 hr (l1 (d5 hr (ae 0) (fA bJ ac)))) (c4 R0 hr (l1 (d5 hr (ae 0) (fA bJ ac))))))) aI)
  (ak (au ac))))) rfl) rfl rfl 12
noncomputable def bj:Nat->aA
 |0=>mz
 |n+1=>Ab 1 (C.bK bp (bj n))
def cS:aA:=bj 12
def fj(T:Txt P w K mg):Bm P w K mg base 24 "_law_round_count" 1 cS:=ji (b:=12) (r:=bj) T.o__law_round_count (fun n R0=>fK ["_law_body_here"] T.o__law_round_count (fun _ _ _ _ _ _ _ hr nd=>(ab (bd (gC hr (bn hr (ae 0)) ao) (ak (au (aE aD (c4 (cR T) hr (l1 (bn hr (ae 0)))) (c4 R0 hr (l1 (bn hr (ae 0))))))) aI)
  (ab (bd (bi (ip (eg hr)) (bn hr (ae 0)) (aC (lc ao (lc ao (l1 ao)))) rfl) (ak (au (aE aD (c4 R0 hr (l1 (d5 hr (ae 0) (fA bJ ac)))) (c4 R0 hr (l1 (d5 hr (ae 0) (fA bJ ac))))))) aI)
  (ak (au ac))))) rfl) rfl rfl 12
def b9:aA:=Ab 5 (C.b7 eU bp cS bO)
def gA(T:Txt P w K mg):Bm P w K mg base 25 "_law_deed_body" 4 b9:=fK ["_law_deal_here","_law_jars","_law_most_parts","_law_most_lines","_law_body_here"] T.o__law_deed_body (fun _ _ _ _ _ _ _ hr nd=>(ab (s4 4 nd (c4 (gy T) hr (lc (ae 0) (lc (ae 1) (lc (bh (l1 (aE d4 (ae 2) ac))) (l1 ac))))))
  (ab (bd (bi mw (aE aD (c4 (cR T) hr (l1 (ae 4))) (c4 (fj T) hr (l1 (ae 4)))) (ae 3) (aW _)) (ak (s4 4 nd (aC (lc ao (lc (aC (lc ao (l1 (c4 (bx T) hr (lc (ae 0) (l1 (ae 1))))))) (l1 (c4 (bx T) hr (lc (ae 0) (l1 (ae 1)))))))))) aI)
  (ak (au (ae 4)))))) rfl
def dX:aA:=Ab 9 (C.dI bW w__law_draw b9)
def jJ(T:Txt P w K mg):Bm P w K mg base 26 "_law_house" 4 dX:=fK ["_law_deal_here","_law_most_jars","_law_most_deeds","_law_most_parts","_law_words_here","_law_jars","_law_first","_law_many","_law_deeds"] T.o__law_house (fun _ _ _ _ _ _ _ hr nd=>(ab (s4 4 nd (c4 (dj T) hr (lc (ae 0) (l1 ac))))
  (ab (s4 5 nd (cT bS T.Ad (l1 (bG (ae 4) cF (b6 (c4 (ai T) hr (lc (ae 0) (l1 (aE aD (ae 1) ac)))))))))
  (ab (s4 6 nd (d5 hr (bh (lc ac (l1 ac))) (c4 (ai T) hr (lc (ae 0) (l1 ac)))))
  (ab (s4 7 nd (aE aD ac (c4 (ai T) hr (lc (ae 0) (l1 (ae 2))))))
  (ab (v5 ["_law_words_here","_law_most_parts","_law_many","_law_jars","_law_first","_law_deal_here"] 1 [0,6,5,7,3,4] ["_law_k","_law_deal_here","_law_first","_law_jars","_law_many","_law_most_parts","_law_words_here"] 8 nd (d_ rfl rfl T.BL (l1 (ae 7))) (fun _=>(gn 0 y9)) (fun _=>cX) (fun _=>(aC (lc (d5 hr (ae 6) (aE aD (ae 2) (ae 0))) (l1 (c4 (gA T) hr (lc (ae 1) (lc (ae 3) (lc (ae 5) (l1 (aE kO ac (ae 4))))))))))))
  (ak (au (aC (lc (ae 5) (l1 (cT bS T.Ad (l1 (ae 8)))))))))))))) rfl
noncomputable def c_:Nat->aA
 |0=>mz
 |n+1=>Ab 3 (C.eE (c_ n))
def iA:aA:=c_ 12
def kY(T:Txt P w K mg):Bm P w K mg base 12 "_law_puts" 3 iA:=ji (b:=0) (r:=c_) T.o__law_puts (fun n R0=>fK ["_law_body_here","_law_held","_law_found"] T.o__law_puts (fun _ _ _ _ _ _ _ hr nd=>(ab (bd (gC hr (bn hr (ae 0)) ao) (ak (bB (lQ bM ci (ae 2) (l1 (bn hr (ae 0)))))) aI)
  (ab (bd (gC hr (bn hr (ae 0)) ao) (ak (bB (c4 R0 hr (lc (bn hr (ae 0)) (lc (ae 1) (l1 (ae 2))))))) aI)
  (ak (bd (bi (ip (eg hr)) (bn hr (ae 0)) (aC (lc ao (lc ao (l1 ao)))) rfl) (ab (bd (pV (kH (v1 hr (bn hr (ae 0)) ao) (im (bi (ip (eg hr)) (bn hr (ae 0)) (ae 1) rfl)))) (ak (bB (c4 R0 hr (lc (d5 hr (ae 0) (fA bJ ac)) (lc (ae 1) (l1 (ae 2))))))) aI)
  (ak (bB (c4 R0 hr (lc (d5 hr (ae 0) (fA bJ ac)) (lc (ae 1) (l1 (ae 2)))))))) aI))))) rfl) rfl rfl 12
def cr:aA:=Ab 6 (C.cn iA)
def hW(T:Txt P w K mg):Bm P w K mg base 13 "_law_fillable" 1 cr:=fK ["_law_house_here","_law_held","_law_turn","_law_found","_law_name","_law_body_here"] T.o__law_fillable (fun _ _ _ _ _ _ _ hr nd=>(ab (s4 1 nd (bh cW))
  (ab (ft II rfl (cH (bn hr (ae 0))) (gn 2 nd) (ab (s4 3 nd (bh cW))
  (ab (ft II rfl (cH (bn hr (ae 0))) (oa rfl (aS (gn 4 nd) (aS (gn 5 nd) dz))) (ak (bB (c4 (kY T) hr (lc (ae 5) (lc (ae 1) (l1 (ae 3))))))))
  (ak (s4 1 nd (ae 3))))))
  (ak (au (ae 1)))))) rfl
noncomputable def cy:Nat->aA
 |0=>mz
 |n+1=>Ab 2 (C.bw (cy n))
def gB:aA:=cy 12
def jK(T:Txt P w K mg):Bm P w K mg base 12 "_law_alike" 2 gB:=ji (b:=0) (r:=cy) T.o__law_alike (fun n R0=>fK ["_law_found","_law_due"] T.o__law_alike (fun _ _ _ _ _ _ _ hr nd=>(ab (bd (j0 (cB i_ T.Ac (lc (ae 1) (l1 (aC (lc (tZ T.Cm) (l1 (tZ T.Ad)))))))) (ab (bd (pV (kH (v1 hr (cB i_ T.Ac (lc (ae 0) (l1 (tZ T.Cm)))) (cB i_ T.Ac (lc (ae 1) (l1 (tZ T.Cm))))) (im (v1 hr (cB i_ T.Ac (lc (ae 0) (l1 (tZ T.Ad)))) (cB i_ T.Ac (lc (ae 1) (l1 (tZ T.Ad)))))))) (ak (au wU)) aI)
  (ak (au (j3 (fo (i4 (gg hr)) (cB cG T.AT (l1 (ae 0))) (cB cG T.AT (l1 (ae 1))) (aW _)) (j2 (cB (tV rfl) T.DU (l1 (qw [] 2 [] ["_law_one","_law_other"] (vC rfl rfl rfl T.DW (by decide +kernel) (lc (ae 0) (l1 (ae 1)))) (fun _=>(oa rfl (aS (gn 0 xF) (aS (gn 1 xF) dz)))) (fun _=>cX) (fun _=>(c4 R0 hr (lc (ae 0) (l1 (ae 1))))))))))))) aI)
  (ak (au (j3 (fo (i4 (gg hr)) (cB i_ T.Ac (lc (ae 0) (l1 (tZ T.Do)))) (cB i_ T.Ac (lc (ae 1) (l1 (tZ T.Do)))) (aW _)) (j2 (fo (i4 (gg hr)) (ae 0) (ae 1) (aW _)))))))) rfl) rfl rfl 12
noncomputable def de:Nat->aA
 |0=>mz
 |n+1=>Ab 5 (C.eG (de n))
def iB:aA:=de 12
def kZ(T:Txt P w K mg):Bm P w K mg base 12 "_law_walk" 5 iB:=ji (b:=0) (r:=de) T.o__law_walk (fun n R0=>fK ["_law_body_here","_law_at","_law_held","_law_there","_law_found"] T.o__law_walk (fun _ _ _ _ _ _ _ hr nd=>(ab (bd (pV (mZ (v1 hr (bn hr (ae 0)) ao) (me (v1 hr (bn hr (ae 0)) ao)))) (ab (bd (j0 (ae 3)) (ak (bB (lQ bM ci (ae 4) (l1 (ae 1))))) aI)
  (ak (s4 1 nd (aE aD (ae 1) ac)))) aI)
  (ab (bd (gC hr (bn hr (ae 0)) ao) (ak (au (c4 R0 hr (lc (bn hr (ae 0)) (lc (ae 1) (lc (ae 2) (lc (ae 3) (l1 (ae 4))))))))) aI)
  (ab (bd (bi (ip (eg hr)) (bn hr (ae 0)) (aC (lc ao (lc ao (l1 ao)))) rfl) (ab (s4 1 nd (c4 R0 hr (lc (d5 hr (ae 0) (fA bJ ac)) (lc (ae 1) (lc (ae 2) (lc (j3 (ae 3) (j2 (yN (fo (tT (gg hr)) (bn hr (ae 0)) ao (aW _)) (j2 (fo (ip (eg hr)) (bn hr (ae 0)) (ae 2) rfl))))) (l1 (ae 4))))))))
  (ak (au (c4 R0 hr (lc (d5 hr (ae 0) (fA bJ ac)) (lc (ae 1) (lc (ae 2) (lc (ae 3) (l1 (ae 4)))))))))) aI)
  (ak (au (ae 1))))))) rfl) rfl rfl 12
def dY:aA:=Ab 10 (C.dL bW w__law_draw bO)
def jL(T:Txt P w K mg):Bm P w K mg base 4 "_law_chain" 1 dY:=fK ["_law_deal_here","_law_words_here","_law_left","_law_jars","_law_jar","_law_order","_law_bodies","_law_k","_law_body_here","_law_more"] T.o__law_chain (fun _ _ _ _ _ _ _ hr nd=>(ab (s4 1 nd (c4 (dj T) hr (lc (ae 0) (l1 ac))))
  (ab (s4 2 nd (bG (ae 1) cF (b6 (aE aD ac (c4 (ai T) hr (lc (ae 0) (l1 ac)))))))
  (ab (s4 3 nd (cT bS T.Ad (l1 (ae 2))))
  (ab (v5 ["_law_left","_law_deal_here"] 1 [0,2] ["_law_jar","_law_deal_here","_law_left"] 5 nd (cH (ae 3)) (fun _=>(gn 0 y_)) (fun _=>cX) (fun _=>(lQ qu tW (ae 2) (l1 (c4 (ai T) hr (lc (ae 1) (l1 (cB cG T.AT (l1 (ae 2))))))))))
  (ab (s4 6 nd (bh cW))
  (ab (ft II rfl (gQ rfl rfl T.Ar (by decide +kernel) (l1 (ae 5))) (oa rfl (aS (gn 7 nd) (aS (gn 4 nd) dz))) (ab (s4 8 nd (aC (lc ao (lc (ae 4) (l1 (aE aD ac (c4 (ai T) hr (lc (ae 0) (l1 ac)))))))))
  (ab (bd (pV (kH (bi mw (ae 7) ac (aW _)) (im (gC hr (c4 (ai T) hr (lc (ae 0) (l1 ac))) ac)))) (ak (s4 8 nd (aC (lc ao (lc (d5 hr (ae 5) (aE d4 (ae 7) ac)) (lc (aE aD ac (c4 (ai T) hr (lc (ae 0) (l1 ac)))) (lc (ae 8) (l1 (c4 (bx T) hr (lc (ae 0) (l1 (bh cW)))))))))))) aI)
  (ab (s4 9 nd (bh (lc (aC (lc ao (lc (c4 (bx T) hr (lc (ae 0) (l1 (bh cW)))) (l1 (ae 8))))) (lc (aC (lc ao (l1 (ae 8)))) (l1 (aC (lc ao (lc (c4 (bx T) hr (lc (ae 0) (l1 (bh cW)))) (l1 (ae 8))))))))))
  (ak (bB (lQ oo qq (ae 6) (lc (c4 (ai T) hr (lc (ae 0) (l1 (aE aD (cB cG T.AT (l1 (ae 6))) ac)))) (l1 (d5 hr (bh (lc (ae 8) (lc (bn hr (ae 9)) (lc (bn hr (ae 9)) (l1 (bn hr (ae 9))))))) (c4 (ai T) hr (lc (ae 0) (l1 ac)))))))))))))
  (ak (au (aC (lc (ae 3) (l1 (cT bS T.Ad (l1 (qw ["_law_words_here"] 2 [1] ["_law_k","_law_body_here","_law_words_here"] (gQ rfl rfl T.Ar (by decide +kernel) (l1 (ae 6))) (fun _=>(oa rfl (aS (gn 0 t4) (aS (gn 1 t4) dz)))) (fun _=>cX) (fun _=>(aC (lc (d5 hr (ae 2) (aE aD ac (ae 0))) (l1 (ae 1)))))))))))))))))))) rfl
def bX(zR Co Cp Au Br:aA):bC:=(af (aq 1 (ad zR [(v3 0),(c3 (.int 4))]))
  (af (bq (aU (ah (bg false) (v3 1) (c3 (.int 0)))) (ay (ad Co [(v3 0)])) aN)
  (af (bq (aU (ah (bg false) (v3 1) (c3 (.int 1)))) (ay (ad Cp [(v3 0),(c3 (.int 4)),(c3 (.int 4)),(c3 (.int 20))])) aN)
  (af (aq 2 (ad Au [(v3 0),(c3 (.int 8))]))
  (af (aq 3 (am aQ [(bf (v3 2) kK (jH (ad zR [(v3 0),(c3 (.int 5))])))]))
  (af (aq 4 (ah ag (bm [(c3 (.int 0)),(c3 (.int 4))]) (ad zR [(v3 0),(c3 (.int 2))])))
  (af (aq 5 (ah aP (c3 (.int 1)) (ad zR [(v3 0),(c3 (.int 4))])))
  (ay (aB [(v3 3),(am aQ [(aR (jI (v3 5)) (.n 0) bQ (aB [(ah ag (v3 4) (ah aP (v3 2) (v3 0))),(ad Br [(v3 1),(v3 3),(bm [(c3 (.int 19))]),(c3 (.int 5))])]) 1 [0,4,3,2])])])))))))))
def bY:aA:=Ab 6 (bX w__law_draw dY dX bW eU)
def cU(T:Txt P w K mg):Bm P w K mg base 27 "_law_wide_house" 1 bY:=fK ["_law_deal_here","_law_form","_law_words_here","_law_jars","_law_first","_law_many"] T.o__law_wide_house (fun _ _ _ _ _ _ _ hr nd=>(ab (s4 1 nd (c4 (ai T) hr (lc (ae 0) (l1 ac))))
  (ab (bd (gC hr (ae 1) ac) (ak (au (c4 (jL T) hr (l1 (ae 0))))) aI)
  (ab (bd (gC hr (ae 1) ac) (ak (au (c4 (jJ T) hr (lc (ae 0) (lc ac (lc ac (l1 ac))))))) aI)
  (ab (s4 2 nd (c4 (dj T) hr (lc (ae 0) (l1 ac))))
  (ab (s4 3 nd (cT bS T.Ad (l1 (bG (ae 2) cF (b6 (c4 (ai T) hr (lc (ae 0) (l1 ac))))))))
  (ab (s4 4 nd (d5 hr (bh (lc ac (l1 ac))) (c4 (ai T) hr (lc (ae 0) (l1 ac)))))
  (ab (s4 5 nd (aE aD ac (c4 (ai T) hr (lc (ae 0) (l1 ac)))))
  (ak (au (aC (lc (ae 3) (l1 (cT bS T.Ad (l1 (qw ["_law_words_here","_law_jars","_law_first","_law_deal_here"] 1 [0,4,3,2] ["_law_k","_law_deal_here","_law_first","_law_jars","_law_words_here"] (d_ rfl rfl T.BL (l1 (ae 5))) (fun _=>(gn 0 xG)) (fun _=>cX) (fun _=>(aC (lc (d5 hr (ae 4) (aE aD (ae 2) (ae 0))) (l1 (c4 (gy T) hr (lc (ae 1) (lc (ae 3) (lc (bh (l1 ac)) (l1 ac))))))))))))))))))))))))) rfl
noncomputable def bZ:Nat->aA
 |0=>mz
 |n+1=>Ab 3 (C.cK (bZ n))
def eV:aA:=bZ 12
def iI(T:Txt P w K mg):Bm P w K mg base 12 "_law_swapped" 2 eV:=ji (b:=0) (r:=bZ) T.o__law_swapped (fun n R0=>fK ["_law_body_here","_law_names","_law_sides"] T.o__law_swapped (fun _ _ _ _ _ _ _ hr nd=>(ab (bd (gC hr (bn hr (ae 0)) ao) (ak (au (aC (lc ao (lc (qo (q9 hr) (ae 1) (bn hr (ae 0)) (bn hr (ae 0)) ⟨rfl,rfl,rfl,rfl⟩) (l1 (bn hr (ae 0)))))))) aI)
  (ab (bd (gC hr (bn hr (ae 0)) ao) (ak (au (aC (lc ao (l1 (c4 R0 hr (lc (bn hr (ae 0)) (l1 (ae 1))))))))) aI)
  (ab (bd (bi (ip (eg hr)) (bn hr (ae 0)) (aC (lc ao (lc ao (l1 ao)))) rfl) (ab (s4 2 nd (aC (lc (c4 R0 hr (lc (d5 hr (ae 0) (fA bJ ac)) (l1 (ae 1)))) (l1 (c4 R0 hr (lc (d5 hr (ae 0) (fA bJ ac)) (l1 (ae 1))))))))
  (ab (bd (gC hr (bn hr (ae 0)) ao) (ak (au (aE aD (aC (lc ao (lc (qo (q9 hr) (ae 1) (bn hr (ae 0)) (bn hr (ae 0)) ⟨rfl,rfl,rfl,rfl⟩) (l1 (bn hr (ae 0)))))) (ae 2)))) aI)
  (ak (au (aE aD (bG (ae 0) cF (b6 ac)) (ae 2)))))) aI)
  (ak (au (ae 0))))))) rfl) rfl rfl 12
def fR:aA:=Ab 6 (C.fJ eV)
def lK(T:Txt P w K mg):Bm P w K mg base 13 "_law_kin" 1 fR:=fK ["_law_house_here","_law_jars","_law_deeds","_law_found","_law_names","_law_bodies"] T.o__law_kin (fun _ _ _ _ _ _ _ hr nd=>(ab (xg (ae 0) (oa rfl (aS (gn 1 nd) (aS (gn 2 nd) dz))))
  (ab (s4 3 nd (bh (l1 (ae 0))))
  (ab (bd (bi mw (cB cG T.AT (l1 (ae 2))) ac (aW _)) (ab (s4 4 nd (qw [] 2 [] ["_law_name","_law_body_here"] (cH (ae 2)) (fun _=>(oa rfl (aS (gn 0 np) (aS (gn 1 np) dz)))) (fun _=>cX) (fun _=>(ae 0))))
  (ab (v5 [] 2 [] ["_law_name","_law_body_here"] 5 nd (cH (ae 2)) (fun _=>(oa rfl (aS (gn 0 np) (aS (gn 1 np) dz)))) (fun _=>cX) (fun _=>(ae 1)))
  (ak (bB (lQ gV jc (ae 3) (l1 (bh (lc (aC (lc (ae 1) (l1 (bG (ae 2) cF (b6 (fA bJ ac)))))) (l1 (aC (lc (ae 1) (l1 (vy rfl rfl rfl rfl T.Ad rfl T.DW (lc (ae 4) (l1 (aE aD (bG (ae 5) (b6 ac) cF) (bG (ae 5) cF (b6 ac)))))))))))))))))) aI)
  (ab (bd (bi mw (cB cG T.AT (l1 (ae 1))) ac (aW _)) (ab (s4 4 nd (qm (gf (bn hr (ae 1)) (d5 hr (ae 1) (fA bJ ac)) (gf (d5 hr (ae 1) (fA bJ ac)) (bn hr (ae 1)) qk))))
  (ak (bB (lQ bM ci (ae 3) (l1 (aC (lc (ae 1) (l1 (cT bS T.Ad (l1 (qw ["_law_names"] 2 [4] ["_law_name","_law_body_here","_law_names"] (cH (ae 2)) (fun _=>(oa rfl (aS (gn 0 t5) (aS (gn 1 t5) dz)))) (fun _=>cX) (fun _=>(aC (lc (ae 0) (l1 (c4 (iI T) hr (lc (ae 1) (l1 (ae 2))))))))))))))))))) aI)
  (ak (au (ae 3)))))))) rfl
def dZ(CD BX Cq Ca:aA):bC:=(af (aq 1 (bm []))
  (af (cV (a_ (ah ag (v3 0) (c3 (.int 1)))) (.tp (.cons (.n 2) (.cons (.n 3) .nil))) (af (aq 4 (bm []))
  (af (aY (d9 "list" aZ (v3 4) [(ad CD [(v3 3),(c3 (.int 0)),(ad BX [(v3 0)]),(c3 (.bl true)),(v3 4)])]))
  (aY (d9 "list" aZ (v3 1) [(am aQ [(v3 4)])])))))
  (ay (ad Cq [(ad Ca [(v3 0)]),(am aQ [(v3 1)])]))))
def d0:aA:=Ab 5 (dZ iB cr gB cQ)
def jM(T:Txt P w K mg):Bm P w K mg base 31 "_law_right" 1 d0:=fK ["_law_house_here","_law_due","_law_name","_law_body_here","_law_found"] T.o__law_right (fun _ _ _ _ _ _ _ hr nd=>(ab (s4 1 nd (bh cW))
  (ab (ft II rfl (cH (bn hr (ae 0))) (oa rfl (aS (gn 2 nd) (aS (gn 3 nd) dz))) (ab (s4 4 nd (bh cW))
  (ab (bB (lQ bM ci (ae 4) (l1 (c4 (kZ T) hr (lc (ae 3) (lc ac (lc (c4 (hW T) hr (l1 (ae 0))) (lc wU (l1 (ae 4))))))))))
  (ak (bB (lQ bM ci (ae 1) (l1 (cT bS T.Ad (l1 (ae 4))))))))))
  (ak (au (c4 (jK T) hr (lc (c4 (iH T) hr (l1 (ae 0))) (l1 (cT bS T.Ad (l1 (ae 1))))))))))) rfl
def qO(A1 BV CN Cr:aA):bC:=(af (aq 1 (ad A1 [(ad BV [(v3 0),(c3 (.int 0))])]))
  (af (aq 2 (ad A1 [(ad BV [(v3 0),(c3 (.int 1))])]))
  (ay (am mj [(aR (a_ (ah aP (ad CN [(v3 1)]) (bm [(v3 2),(v3 1)]))) (.n 0) bQ (ad Cr [(v3 0)]) 1 [])]))))
def lL:aA:=Ab 3 (qO bY iz fR d0)
def vR(T:Txt P w K mg){f:Addr}{fd:FuncData}(O:xZ K mg "law" (bA 39) ["_law_script"] f fd):Dw P w K mg base 32 f fd ["_law_script"] lL:=zH ["_law_script","_law_one","_law_other"] O (fun _ _ _ _ _ _ _ hr nd=>(ab (s4 1 nd (c4 (cU T) hr (l1 (c4 (gx T) hr (lc (ae 0) (l1 ac))))))
  (ab (s4 2 nd (c4 (cU T) hr (l1 (c4 (gx T) hr (lc (ae 0) (l1 ac))))))
  (ak (au (cB (tV rfl) T.DU (l1 (qw [] 1 [] ["_law_house_here"] (cH (aE aD (c4 (lK T) hr (l1 (ae 1))) (bh (lc (ae 2) (l1 (ae 1)))))) (fun _=>(gn 0 xH)) (fun _=>cX) (fun _=>(c4 (jM T) hr (l1 (ae 0)))))))))))) rfl
end
end G27
namespace G27
open PySem L2 L3 Wd
open C
abbrev fS(w:aA):Prop:=∀{S:ar} {d l:Addr} {Q:bF} {E:cz},z9 S d l->(∀js ds S',HG js ds->Q (Av js ds) S')->w [.ref d] S Q E
def s9{x0 x1 x2 x3 x4:aA}(zT:bu x0)(B_:fO x1)(Dp:fL x2)(AQ:dA x3)(n:Nat)(hn6:6<=n)(BJ:eJ n x4):fS (Ab 6 (bX x0 x1 x2 x3 x4)):=by
 intro Sa d l Q E Da k
 unfold bX
 refine fT ?_
 rw[show az 6 [PV.ref d]=[some (.ref d),none,none,none,none,none] from rfl]
 refine al fun N hN=>?_
 walk_at "x"
 refine zT Da (by decide) (by decide) fun r9 S0 _ _ D0 Oa=>?_
 refine hN _ _ (al fun N hN=>?_)
 walk_at "x"
 simp only[HZ,Ib]
 split
 ·exact B_ D0 fun js ds S' h=>k js ds S' h.toHG
 refine hN _ _ (al fun N hN=>?_)
 walk_at "x"
 simp only[HZ,Ib]
 split
 ·exact Dp (most:=4) (many:=4) (size:=20) D0 (by decide) (by decide) (by decide) (by decide) (by decide) fun js ds S2 h h1 h4 hj D2 O2=>k js ds S2 ⟨fun z hz=>gW (h.jw z hz),by omega,by omega,h.gd,h.dq,h.sz⟩
 refine hN _ _ (al fun N hN=>?_)
 walk_at "x"
 refine AQ D0 (by decide) (by decide) fun p ns S hl hnd hw0 _ Cj hpl hp D O0=>?_
 have hl8':ns.length=8:=hl
 have hw:∀z∈ns,Ch z:=fun z hz=>(hw0 z hz).1
 refine hN _ _ (al fun N hN=>?_)
 walk_at "x"
 refine zT (m:=5) D (by omega) (by omega) fun r S1 r0 r1 D1 O1=>?_
 obtain⟨j,rfl⟩:∃j:Nat,r=(j:Int):=⟨r.toNat,by omega⟩
 have hp1:=O1 _ _ hp Cj hpl
 rw[hp1]
 dsimp only
 rw[jq (by rw[HM];omega),<-Kd]
 intro p2 hp2
 rw[aa]
 dsimp only
 have D2:z9 (zS S1 p2 (.lst ((ns.take j).map PV.str))) d l:=D1.new hp2
 have hp2':=AO.new (o:=.lst ((ns.take j).map PV.str)) hp2 _ _ hp1 Cj hpl
 generalize zS S1 p2 (.lst ((ns.take j).map PV.str))=S2 at D2 hp2'
 refine hN _ _ (al fun N hN=>?_)
 walk_at "x"
 intro p3 hp3
 have EQ:=D2.free hp3
 refine zT (D2.new hp3) (by decide) (by decide) fun f S3 f0 f1 D3 O3=>?_
 have e3:=O3 _ _ (aa (S:=S2) (o:=.lst [.int 0,.int 4])) EQ.1 EQ.2
 have El:=O3 _ _ (AO.new hp3 _ _ hp2' Cj hpl) Cj hpl
 simp only[e3]
 obtain⟨v,hv,ER⟩:=dN (xs:=[PV.int 0,.int 4]) f0 (by simpa using f1)
 rw[hv]
 obtain⟨g,rfl,hg⟩:∃g:Nat,v = .int g/\g<=4:=by
  simp only[HW,Il,Jc]at ER
  rcases ER with rfl|rfl
  ·exact⟨0,rfl,by omega⟩
  ·exact⟨4,rfl,by omega⟩
 refine hN _ _ (al fun N hN=>?_)
 walk_at "x"
 refine zT (m:=4) D3 (by omega) (by omega) fun r4 S4 a0 a1 D4 O4=>?_
 obtain⟨mm,em⟩:∃mm:Nat,1+r4=(mm:Int):=⟨(1+r4).toNat,by omega⟩
 dsimp only
 rw[em]
 have C5:=O4 _ _ El Cj hpl
 refine hN _ _ ?_
 walk_at "x"
 refine⟨by omega,by omega,?_⟩
 rw[JS]
 have hjl:(ns.take j).length<=8:=by rw[IG];omega
 refine bV (fun done ys S'=>∃ds:List (Str×Bd),ys=ds.map dQ/\ds.length=done.length/\done.length<=mm/\(∀q∈ds,q.2.good (ns.take j) []/\q.2.dep<=6/\q.2.size<=60)/\z9 S' d l/\AO d l S4 S') ⟨[],rfl,rfl,IA _,by simp,D4,.refl⟩ ?_ ?_ ?_
 ·rintro done ys S' ⟨ds,rfl,e,hd,_⟩
  exact⟨trivial,bN (by rw[HM,e];omega)⟩
 ·rintro done x rest ys S' K e ⟨ds,rfl,e2,hd,hc,D',O'⟩ hK
  obtain⟨rfl,hi⟩:=ng e
  walk_at "x"
  try simp only[bQ,IV]
  have hp':=O' _ _ C5 Cj hpl
  simp only[hp']
  have hlt:g+done.length < ns.length:=by omega
  have hat:AD (ns.map PV.str) ((g:Int)+(done.length:Int))=some (.str ns[g+done.length]):=by
   have:((g:Int)+(done.length:Int))=((g+done.length:Nat):Int):=by omega
   rw[this]
   exact jt (by rw[HY,Ig hlt];rfl)
  rw[hat]
  dsimp only
  intro px hx
  have dx:=D'.free hx
  refine BJ (D'.new hx) aa dx.1 dx.2 (by omega) (by omega) (by omega) (by decide) (by omega) fun t S5 l1 tg td q0 q1 D5 hx5 O5=>?_
  have F2:AO d l S' S5:=fun a o ha h1 h2=>O5 a o (by rw[aj (fun e=>by rw[e,hx]at ha;cases ha)];exact ha) h1 h2 (fun e=>by rw[e,hx]at ha;cases ha)
  refine hK _ _ ⟨ds++[(ns[g+done.length],t)],by simp[dQ],by simp[e2],by rw[HL];exact hi,fun y hy=>?_,D5,O'.trans F2⟩
  rcases HV.mp hy with hy|hy
  ·exact hc y hy
  ·rw[Ij.mp hy];exact⟨tg,show t.dep<=6 by omega,show t.size<=60 by omega⟩
 rintro ys S5 ⟨ds,rfl,e,_,hds,D5,O5⟩
 rw[cO]at e
 intro p6 F3
 rw[aa]
 dsimp only
 exact k (ns.take j) ds _ ⟨fun z hz=>gW (hw z (IW hz)),by omega,by omega,fun q hq=>(hds q hq).1,fun q hq=>(hds q hq).2.1,fun q hq=>(hds q hq).2.2⟩
abbrev hZ(w:aA):Prop:=∀{S:ar} {js:Vs} {ds:List (Str×Bd)} {Q:bF} {E:cz},HG js ds->(∀S',Ext S S'->Q (.bl true) S')->w [Av js ds] S Q E
def Cb{x0 x1 x2 x3:aA}(DM:ff 6 x0)(B8:gZ x1)(B9:cA 12 x2)(Dj:g_ x3):hZ (Ab 5 (dZ x0 x1 x2 x3)):=by
 intro S js ds Q E hP k
 unfold dZ
 refine fT ?_
 rw[show az 5 [Av js ds]=[some (.tup [.tup (js.map PV.str),.tup (ds.map dQ)]),none,none,none,none] from rfl]
 refine al fun N hN=>?_
 walk_at "x"
 intro p1 hp1
 have X1:Ext S (zS S p1 (.lst [])):=.new hp1
 have f1:(zS S p1 (.lst [])) p1=some (.lst []):=aa
 generalize zS S p1 (.lst [])=S1 at X1 f1
 refine hN _ _ (al fun N hN=>?_)
 simp only[cV,a_,ah,v3,lk,c3,ag,jk,cj]
 refine b_ (fun done σ S'=>∃(x2 x3 x4:Option PV),σ=[some (.tup [.tup (js.map PV.str),.tup (ds.map dQ)]),some (.ref p1),x2,x3,x4]/\Ext S S'/\S' p1=some (.lst ((ds.take done.length).map fun p=>.tup (p.2.DJ (mq (held ds js.length)))))) ⟨_,_,_,rfl,X1,f1⟩ (fun _ _ _ _=>trivial) ?_ ?_
 ·rintro done x rest σ S2 K e ⟨x2,x3,x4,rfl,X2,f2⟩ hK
  have hget:(ds.map dQ)[done.length]?=some x:=by rw[e];simp
  obtain⟨⟨z,t⟩,ht,rfl⟩:∃p,ds[done.length]?=some p/\dQ p=x:=by rw[HY]at hget;exact IJ.mp hget
  have hm:(z,t)∈ds:=Ir ht
  have GF:t.dep<=6:=hP.dp _ hm
  have hsz:t.size<=60:=hP.sz _ hm
  have hlt:done.length < ds.length:=(Im.mp ht).1
  have hdl:=hP.dl
  simp only[dQ,Tg.put,Tg.zV,List.set_cons_zero,List.set_cons_succ]
  refine al fun N2 Bf=>?_
  simp only[aq,bm,ap,List.set_cons_zero,List.set_cons_succ]
  intro p4 C5
  have X4:Ext S2 (zS S2 p4 (.lst [])):=.new C5
  have f4:(zS S2 p4 (.lst [])) p4=some (.lst []):=aa
  have n14:p1≠p4:=fun h=>by rw[h,C5]at f2;cases f2
  generalize zS S2 p4 (.lst [])=S4 at X4 f4
  refine Bf _ _ (al fun N2 Bf=>?_)
  simp only[aY,d9,mo,ap,ad,v3,lk,c3,f4,Kp]
  refine B8 hP fun ph S5 GS X5 f5=>?_
  have HF:=X5 _ _ f4
  have HH:ph≠p4:=fun h=>by rw[h,f4]at GS;cases GS
  refine DM (i:=0) GF (hP.gd _ hm) hP.jw (fun w hw=>hP.jw w (nj hP _ w hw)) f5 HF HH (by simp;omega) fun S6 X6 f6=>?_
  rw[J7,Jm]at *
  have hnl:=eO 0 (t.rws (mq (held ds js.length)) true)
  have hrl:=iR (mq (held ds js.length)) t true
  simp only[aZ,f6]
  refine⟨Ic (show(nums 0 (t.rws (mq (held ds js.length)) true)).length < 1000 by omega) (by decide),?_⟩
  have f7:(zS S6 p4 (.lst (nums 0 (t.rws (mq (held ds js.length)) true)++[.int ((t.rws (mq (held ds js.length)) true).length:Int)]))) p4=some (.lst (t.DJ (mq (held ds js.length)))):=aa
  have XS:Ext S2 (zS S6 p4 (.lst (nums 0 (t.rws (mq (held ds js.length)) true)++[.int ((t.rws (mq (held ds js.length)) true).length:Int)]))):=fun a o h=>by
   have na:a≠p4:=fun h'=>by rw[h',C5]at h;cases h
   rw[aj na]
   exact X6 _ _ (X5 _ _ (X4 _ _ h)) na
  generalize zS S6 p4 (.lst (nums 0 (t.rws (mq (held ds js.length)) true)++[.int ((t.rws (mq (held ds js.length)) true).length:Int)]))=S7 at f7 XS
  have HI:=XS _ _ f2
  refine Bf _ _ ?_
  simp only[aY,d9,mo,ap,am,v3,lk,HI,Kp,aQ,iE,f7,aZ]
  refine⟨KL (show((ds.take done.length).map fun p=>PV.tup (p.2.DJ (mq (held ds js.length)))).length<=1000 by rw[HM,IG];omega) (by decide),hK _ _ ⟨_,_,_,rfl,(X2.trans XS).put hp1,?_⟩⟩
  rw[aa,HL,HX,JL,ht,Iz];rfl
 ·rintro σ S2 ⟨x2,x3,x4,rfl,X2,f2⟩
  rw[HM,JZ]at f2
  refine hN _ _ ?_
  simp only[ay,ad,ap,am,v3,lk]
  refine Dj hP fun hs S3 hf X3=>?_
  have f3:=X3 _ _ f2
  simp only[aQ,iE,f3]
  rw[sX hf]
  refine B9 ?_ fun S4 X4=>k S4 (X2.trans (X3.trans X4))
  refine CF.same (L:=1000) (n:=11) (.tup (by rw[HM];exact hP.dl) fun x hx=>?_) (by decide)
  obtain⟨p,hp,rfl⟩:=ID.mp hx
  exact DG.mono (n:=2) (.tup (Ik (sZ _ _) (by have:=hP.sz p hp;omega)) (sY _ _ _)) (HU _) (by decide)
abbrev s_(w:aA):Prop:=∀{ns:Vu} {S:ar} {Q:bF} {E:cz},ns.length<=63->(∀S',Q (.bl true) S')->w [.cl (ns.map PV.int)] S Q E
def vS{x0 x1 x2 x3:aA}(Dq:fS x0)(B1:lC x1)(Ew:hU x2)(Cb:hZ x3):s_ (Ab 3 (qO x0 x1 x2 x3)):=by
 intro ns S Q E hl k
 unfold qO
 refine fT ?_
 rw[show az 3 [PV.cl (ns.map PV.int)]=[some (.cl (ns.map PV.int)),none,none] from rfl]
 refine al fun N hN=>?_
 walk_at "x"
 refine B1 hl (by decide) (by decide) fun d l S1 _ _ D1 _=>?_
 refine Dq D1 fun js ds S2 hP=>?_
 refine hN _ _ (al fun N hN=>?_)
 walk_at "x"
 refine B1 hl (by decide) (by decide) fun d l S3 _ _ D3 _=>?_
 refine Dq D3 fun DX ds' S4 hP'=>?_
 refine hN _ _ ?_
 simp only[ay,am,ap,aR,a_,ah,ad,bm,v3,lk,List.set_cons_zero,List.set_cons_succ]
 refine Ew hP fun p hs S5 hp X5 f5 hl4 HJ=>?_
 intro p2 hp2
 have n2:p≠p2:=fun h=>by rw[h,hp2]at f5;cases f5
 simp only[aP,aj n2,f5,aa]
 refine⟨bN (by rw[HM];simp;omega),fun p3 hp3=>?_⟩
 have f6:(zS (zS S5 p2 (.lst [Av DX ds',Av js ds])) p3 (.lst (hs.map (Av js)++[Av DX ds',Av js ds]))) p3=some (.lst (hs.map (Av js)++[Av DX ds',Av js ds])):=aa
 generalize zS (zS S5 p2 (.lst [Av DX ds',Av js ds])) p3 (.lst (hs.map (Av js)++[Av DX ds',Av js ds]))=S6 at f6
 simp only[cj,f6]
 have good:∀v∈hs.map (Av js)++[Av DX ds',Av js ds],∃j e,v=Av j e/\HG j e:=by
  intro v hv
  rcases HV.mp hv with h|h
  ·obtain⟨e,he,rfl⟩:=ID.mp h;exact⟨js,e,rfl,HJ e he⟩
  ·simp only[HW,Il,Jc]at h
   rcases h with rfl|rfl
   ·exact⟨_,_,rfl,hP'⟩
   ·exact⟨_,_,rfl,hP⟩
 have hlen:(hs.map (Av js)++[Av DX ds',Av js ds]).length<=6:=by rw[HL,HM];simp;omega
 generalize hs.map (Av js)++[Av DX ds',Av js ds]=vs at f6 good hlen
 refine bV (fun done ys S'=>Ext S6 S'/\done.length<=vs.length/\ys=List.replicate done.length (.bl true)) ⟨.refl,IA _,rfl⟩ (fun done ys S' ⟨X,l,e⟩=>⟨X _ _ f6,bN (by rw[e,IL];omega)⟩) ?_ ?_
 ·rintro done x rest ys S' K e ⟨X,l,rfl⟩ hK
  obtain⟨j,ee,rfl,hg⟩:=good x (by rw[e];simp)
  simp only[Tg.put,dG,List.reduceReplicate,Jb,Iw,List.set_cons_zero,bQ,IV,ad,ap,v3,lk]
  refine Cb hg fun S7 X7=>hK _ _ ⟨X.trans X7,?_,?_⟩
  ·have:vs.length=done.length+(rest.length+1):=by rw[e,HL,Ih]
   rw[HL,HX];omega
  ·rw[HL,HX,List.replicate_succ']
 ·rintro ys S' ⟨X,_,rfl⟩ q hq
  simp only[mj,aa,kh]
  rw[show(List.replicate vs.length true).all id=true by simp]
  exact k _
def eW:bu w__law_draw:=zT
def xI:kQ fQ:=CK
def k4:dA bW:=AQ eW
def qP:gj eR:=BI eW xI
def qQ:gk bO:=AE eW qP
def tj:g6 bO:=qI eW qP
theorem mG:∀n,eJ n (cZ n)
 |0=>fun _ _ _ _ _ _ _ h0 h1 _=>by omega
 |n+1=>BJ eW qQ n (mG n)
theorem lM:∀n,b8 n (bo n)
 |0=>fun h _ _=>absurd h (by have:=Bd.AL;exact Kq.mpr (this _))
 |n+1=>ox n (lM n)
def lN:b8 12 bp:=lM 12
theorem lO:∀n,n<=12->dO n (bj n)
 |0,_=>fun h _ _=>absurd h (by have:=Bd.AL;exact Kq.mpr (this _))
 |n+1,hn=>oy n 12 lN (lO n (by omega)) (by omega)
def zc:dP b9:=kR 12 (by decide) (mG 12) lN (lO 12 (by decide)) qQ
def tm:fL dX:=oA k4 eW zc
def tq:fO dY:=B_ k4 eW tj
def xJ:fS bY:=s9 eW tq tm k4 12 (by decide) (mG 12)
theorem xK:∀n,kT n (bZ n)
 |0=>fun h _ _ _ _=>absurd h (by have:=Bd.AL;exact Kq.mpr (this _))
 |n+1=>Dn n (xK n)
def xL:hU fR:=qM fun h g a b c=>xK 12 (Ik h (by decide)) g a b c
theorem nq:∀n,cA n (cy n)
 |0=>fun h _=>by cases h
 |n+1=>B9 n (nq n)
theorem qR:∀n,fc n (c_ n)
 |0=>fun h _ _ _ _ _ _ _ _=>absurd h (by have:=Bd.AL;exact Kq.mpr (this _))
 |n+1=>qF n (qR n)
def tt:gZ cr:=B8 fun h a b c e f g i j=>qR 12 (Ik h (by decide)) a b c e f g i j
def nu:eZ dU:=Bs
theorem nv:∀n,cY n (dW n)
 |0=>fun h _ _=>absurd h (by have:=Bd.AL;exact Kq.mpr (this _))
 |n+1=>B7 nu n (nv n)
def qS:gY 12 kW:=oC 12 (nv 12)
theorem nw:∀n,e8 n (cf n)
 |0=>fun h _=>absurd h (by have:=Bd.AL;exact Kq.mpr (this _))
 |n+1=>qC n (nw n)
theorem t6:∀n,n<=12->gq n (cg n)
 |0,_=>fun h _ _ _=>absurd h (by have:=Bd.AL;exact Kq.mpr (this _))
 |n+1,hn=>sR n 12 (by omega) qS (nw 12) (t6 n (by omega))
theorem vT:∀n,jv n (bH n)
 |0=>fun h _ _ _ _ _ _=>absurd h (by have:=Bd.AL;exact Kq.mpr (this _))
 |n+1=>CC nu n (vT n)
def vU:jx eQ:=Ck (fun h a b c d e f=>vT 12 (Ik h (by decide)) a b c d e f) (fun h a b c=>t6 12 (by decide) (Ik h (by decide)) a b c)
def mH:dR fP:=lF (BF vU)
def qT:fM hV:=oB
def tw:g7 cP:=qJ (fun h a b c d e f=>vT 12 (Ik h (by decide)) a b c d e f) qT
def tD:g_ cQ:=qK mH tw
theorem qU:∀n,ff n (de n)
 |0=>fun h _ _ _ _ _ _ _ _=>absurd h (by have:=Bd.AL;exact Kq.mpr (this _))
 |n+1=>qL n (qU n)
def tE:hZ d0:=Cb (fun h a b c d e f g i=>qU 12 (Ik h (by decide)) a b c d e f g i) tt (nq 12) tD
def qV:∀ns:List Int,ns.length<=63->lL [.cl (ns.map PV.int)] (fun _=>none) (fun v _=>v = .bl true) dD:=fun ns h=>vS xJ B1 xL tE h fun _=>rfl
end G27
namespace L3
open PySem L2 Xc
def lP{P:List Value->Prop}(h:∀a,P [a])(us:Vv)(hl:us.length=1):P us:=match us,hl with|[_],_=>h _
def re{P:List Value->Prop}(h:∀a b,P [a,b])(us:Vv)(hl:us.length=2):P us:=match us,hl with|[_,_],_=>h _ _
def zd{P:List Value->Prop}(h:∀a b c,P [a,b,c])(us:Vv)(hl:us.length=3):P us:=match us,hl with|[_,_,_],_=>h _ _ _
def ze{P:List Value->Prop}(h:∀a b c d,P [a,b,c,d])(us:Vv)(hl:us.length=4):P us:=match us,hl with|[_,_,_,_],_=>h _ _ _ _
def zN{P:List Value->Prop}(h:∀a b c d e,P [a,b,c,d,e])(us:Vv)(hl:us.length=5):P us:=match us,hl with|[_,_,_,_,_],_=>h _ _ _ _ _
section
variable {K:Vo} {h:Heap} {mg:Vr} {x c m q:Str} {st:Stmt} {ps fl:Vs}
noncomputable def tF:Option (Option Value)->Bool
 |some none=>true
 |_=>false
def tG{o:Option (Option Value)}(h:tF o=true):o=some none:=by
 unfold tF at h;split at h
 ·rfl
 ·cases h
def FnAt(K:Vo)(f:Addr)(m q:Str)(st:Stmt):Prop:=∃(oc kV doc pm cdv ct:Value) (od an:Option Addr) (osl:Array (Option Value)),
 K.lookup f=some ⟨oc,od,.func (PySem.W.fnOf m q (bv st) (aV st) (aw st) .none kV doc pm an cdv ct),osl⟩/\PySem.W.codeIn K cdv q=true/\PySem.W.keepIn K (.ref f)=true
abbrev qW(m q:Str)(st:Stmt)(ps:Vs):Prop:=∀(kV doc pm:Value) (an:Option Addr) (cdv ct:Value) (us:Vv),us.length=ps.length->bindArgs (PySem.W.fnOf m q (bv st) (aV st) (aw st) .none kV doc pm an cdv ct) ⟨us,[]⟩=pure (ps.zip us)
def FnAt.mk{f:Addr}(a:FnAt K f m q st)(hb:qW m q st ps):∃fd,DO K m q st f fd/\Binds K fd ps []/\PySem.W.keepIn K (.ref f)=true:=by
 obtain⟨oc,kV,doc,pm,cdv,ct,od,an,osl,l,cc,k⟩:=a
 exact⟨_,kB l cc k,(kB l cc k).binds hb,k⟩
def Bo(K:Vo)(x:Str)(st:Stmt):Prop:=∃f,PySem.W.nsIn K mainGlobals x=some (some (.ref f))/\FnAt K f x x st
def Bo.own(X:K.In h)(G:h.Ns mainGlobals mg)(a:Bo K x st)(hb:qW x x st ps):bt K mg x st ps:=by
 obtain⟨f,n,a⟩:=a
 obtain⟨fd,F,b,k⟩:=a.mk hb
 exact⟨f,fd,F,b,k,Lw X G n⟩
def Bo.law{fa:Addr}(X:K.In h)(G:h.Ns mainGlobals mg)(a:Bo K x st)(hfa:mg x=some (.ref fa))(hb:qW x x st ps):∃kV doc pm an cdv ct,xZ K mg x st ps fa (PySem.W.fnOf x x (bv st) (aV st) (aw st) .none kV doc pm an cdv ct):=by
 obtain⟨f,n,oc,kV,doc,pm,cdv,ct,od,an,osl,l,cc,k⟩:=a
 cases hfa.symm.trans (Lw X G n)
 exact⟨kV,doc,pm,an,cdv,ct,kB l cc k,(kB l cc k).binds hb,k,hfa⟩
def Fi(P:Program)(w:World)(K:Vo)(x:Str)(kvs:List (ba×V)):Prop:=∃a o,PySem.W.nsIn K mainGlobals x=some (some (.ref a))/\K.lookup a=some o/\(a == sysModules)=false/\∃vs,KV kvs vs/\Obj.IsDictOf (aK P w) o vs
def Fi.kd{P:Program}{w:World}{kvs:List (ba×V)}(X:K.In h)(G:h.Ns mainGlobals mg)(a:Fi P w K x kvs):∃a,mg x=some (.ref a)/\KD P w K a kvs:=by
 obtain⟨a,o,n,l,s,vs,h1,h2⟩:=a
 exact⟨a,Lw X G n,s,o,vs,l,h1,h2⟩
def jA(X:K.In h)(G:h.Ns mainGlobals mg){l:Vs}(a:(l.all fun x=>tF (PySem.W.nsIn K mainGlobals x))=true)(hx:x∈l:=by decide):mg x=none:=PySem.W.mg_none_of X G (tG (K6.mp a x hx))
section
variable {f C:Addr} {oc kV doc pm cdv ct:Value} {od an:Option Addr} {osl:Array (Option Value)}
def zO(n:PySem.W.nsIn K mainGlobals x=some (some (.ref f)))(l:K.lookup f=some ⟨oc,od,.func (PySem.W.fnOf x x (bv st) (aV st) (aw st) .none kV doc pm an cdv ct),osl⟩)(cc:PySem.W.codeIn K cdv x=true)(k:PySem.W.keepIn K (.ref f)=true):Bo K x st:=⟨f,n,oc,kV,doc,pm,cdv,ct,od,an,osl,l,cc,k⟩
def zP{P:Program}{w:World}{kvs:List (ba×V)}{o:Obj}(n:PySem.W.nsIn K mainGlobals x=some (some (.ref f)))(l:K.lookup f=some o)(s:(f == sysModules)=false)(v:∃vs,KV kvs vs/\Obj.IsDictOf (aK P w) o vs):Fi P w K x kvs:=⟨f,o,n,l,s,v⟩
end
end
section
variable {K:Vo} {h:Heap} {mg:Vr} {x:Str} {st:Stmt} {ps:Vs}
def Fj(K:Vo)(x:Str)(st:Stmt):Prop:=∃(f T:Addr) (oc kV doc pm cdv ct:Value) (od an:Option Addr) (osl:Array (Option Value)) (oT:Obj) (nT:Nat),PySem.W.nsIn K mainGlobals x=some (some (.ref f))/\
 K.lookup f=some ⟨oc,od,.func (PySem.W.fnOf x x (bv st) (aV st) (aw st) (.ref T) kV doc pm an cdv ct),osl⟩/\PySem.W.codeIn K cdv x=true/\PySem.W.keepIn K (.ref f)=true/\K.lookup T=some oT/\oT.data = .seq #[.bool true] nT
abbrev t7(x:Str)(st:Stmt)(ps:Vs):Prop:=∀(s:Shared) (T:Addr) (oT:Obj) (nT:Nat) (kV doc pm cdv ct:Value) (an:Option Addr) (us:Vv),oT.data = .seq #[.bool true] nT->us.length=ps.length->s.heap.get? T=some oT->BindsTo s (PySem.W.fnOf x x (bv st) (aV st) (aw st) (.ref T) kV doc pm an cdv ct) ⟨us,[]⟩ (ps.zip us)
abbrev t8(x:Str)(st:Stmt)(ps:Vs):Prop:=∀(s:Shared) (T:Addr) (oT:Obj) (nT:Nat) (kV doc pm cdv ct:Value) (an:Option Addr) (us:Vv),oT.data = .seq #[.bool true] nT->us.length+1=ps.length->s.heap.get? T=some oT->BindsTo s (PySem.W.fnOf x x (bv st) (aV st) (aw st) (.ref T) kV doc pm an cdv ct) ⟨us,[]⟩ (ps.zip (us++[.bool true]))
def Fj.own(X:K.In h)(G:h.Ns mainGlobals mg)(a:Fj K x st)(hb:t7 x st ps)(hd:t8 x st ps):lz K mg x st ps:=by
 obtain⟨f,T,oc,kV,doc,pm,cdv,ct,od,an,osl,oT,nT,n,l,c,k,lT,sT⟩:=a
 exact⟨T,f,_,⟨⟨oc,od,kV,doc,pm,an,cdv,ct,osl,rfl,l,c⟩,k⟩,fun s us KI hl=>by rw[Iw]at hl ⊢;exact hb _ _ _ _ _ _ _ _ _ _ us sT hl (KI T oT lT),fun s us KI hl=>hd _ _ _ _ _ _ _ _ _ _ us sT (by rw[HL]at hl;exact hl) (KI T oT lT),k,Lw X G n⟩
def zQ{f T:Addr}{oc kV doc pm cdv ct:Value}{od an:Option Addr}{osl:Array (Option Value)}{oT:Obj}{nT:Nat}(n:PySem.W.nsIn K mainGlobals x=some (some (.ref f)))(l:K.lookup f=some ⟨oc,od,.func (PySem.W.fnOf x x (bv st) (aV st) (aw st) (.ref T) kV doc pm an cdv ct),osl⟩)(c:PySem.W.codeIn K cdv x=true)(k:PySem.W.keepIn K (.ref f)=true)
  (lT:K.lookup T=some oT) (sT:oT.data = .seq #[.bool true] nT):Fj K x st:=⟨f,T,oc,kV,doc,pm,cdv,ct,od,an,osl,oT,nT,n,l,c,k,lT,sT⟩
end
end L3
namespace G27
open PySem L2 L3
def h_:t7 "parts_reached" (bA 11) ["body","names","reached"]:=fun _ _ _ _ _ _ _ _ _ _ us sT hl hT=>zd (P:=fun us=>BindsTo _ _ ⟨us,[]⟩ ((["body","names","reached"]:Vs).zip us)) (fun _ _ _=>by refine BindsTo.of_defaults rfl hT sT rfl ?_;rfl) us hl
def ic:t8 "parts_reached" (bA 11) ["body","names","reached"]:=fun _ _ _ _ _ _ _ _ _ _ us sT hl hT=>re (P:=fun us=>BindsTo _ _ ⟨us,[]⟩ ((["body","names","reached"]:Vs).zip (us++[.bool true]))) (fun _ _=>by refine BindsTo.of_defaults rfl hT sT rfl ?_;rfl) us (Nat.succ.inj hl)
def vV{l:PySem.W.OpenLaw}{w:World}{K:Vo}{h:Heap}{mg:Vr}{fa:Addr}(X:K.In h)(G:h.Ns mainGlobals mg)(hfa:mg "law" = some (.ref fa))
  (Bg:Bo K "sides_of" (bA 2))
  (Bh:Bo K "parts_in" (bA 3))
  (BR:Bo K "parts" (bA 4))
  (Bt:Bo K "has_row" (bA 6))
  (AJ:Bo K "plain_trace" (bA 8))
  (AK:Bo K "led_to_part" (bA 9))
  (Ax:Fj K "parts_reached" (bA 11))
  (A4:Bo K "next_step" (bA 12))
  (Bu:Bo K "filling" (bA 13))
  (Bi:Bo K "fillable" (bA 14))
  (AA:Bo K "rows_of_body" (bA 16))
  (AB:Bo K "rows_come_to" (bA 17))
  (A5:Bo K "_law_deal" (bA 19))
  (A6:Bo K "_law_draw" (bA 20))
  (AU:Bo K "_law_words" (bA 21))
  (Bj:Bo K "_law_low" (bA 22))
  (A7:Bo K "_law_cost" (bA 23))
  (A8:Bo K "_law_leaf" (bA 24))
  (A9:Bo K "_law_body" (bA 25))
  (Ak:Bo K "_law_pass_count" (bA 26))
  (Ag:Bo K "_law_round_count" (bA 27))
  (Ap:Bo K "_law_deed_body" (bA 28))
  (AV:Bo K "_law_house" (bA 29))
  (A_:Bo K "_law_puts" (bA 30))
  (Ay:Bo K "_law_fillable" (bA 31))
  (AW:Bo K "_law_alike" (bA 32))
  (Ba:Bo K "_law_walk" (bA 33))
  (AX:Bo K "_law_chain" (bA 34))
  (Al:Bo K "_law_wide_house" (bA 35))
  (AC:Bo K "_law_swapped" (bA 36))
  (Bl:Bo K "_law_kin" (bA 37))
  (AY:Bo K "_law_right" (bA 38))
  (AZ:Fi l.prog w K "SIDES_FROM" (C.k_SIDES_FROM.map fun kv=>(kv.1,V.int kv.2)))
  (C8:((["all","bool","enumerate","isinstance","len","list","max","range","reversed","tuple","zip"]:Vs).all fun x=>tF (PySem.W.nsIn K mainGlobals x))=true)
  (Dr:Bo K "law" (bA 39))
  : ∃fd:FuncData,(∀(s:Shared) (v:Value),BindsTo s fd ⟨[v],[]⟩ [("_law_script",v)])/\∀base:Heap,K.In base->base.Ns mainGlobals mg->jB l.prog w K mg base qY 32 fa fd ["_law_script"] (xi K 1 lL):=by
 obtain⟨kV,doc,pm,an,cdv,ct,O⟩:=Dr.law X G hfa (ps:=["_law_script"]) (fun _ _ _ _ _ _=>lP fun _=>rfl)
 exact⟨_,fun s v=>.of_eq rfl,fun base _ _=>(vR (P:=l.prog) (w:=w) (base:=base) ⟨Bg.own X G (fun _ _ _ _ _ _=>lP fun _=>rfl),
  Bh.own X G (fun _ _ _ _ _ _=>lP fun _=>rfl),
  BR.own X G (fun _ _ _ _ _ _=>lP fun _=>rfl),
  Bt.own X G (fun _ _ _ _ _ _=>lP fun _=>rfl),
  AJ.own X G (fun _ _ _ _ _ _=>lP fun _=>rfl),
  AK.own X G (fun _ _ _ _ _ _=>zd fun _ _ _=>rfl),
  Ax.own X G h_ ic,
  A4.own X G (fun _ _ _ _ _ _=>re fun _ _=>rfl),
  Bu.own X G (fun _ _ _ _ _ _=>lP fun _=>rfl),
  Bi.own X G (fun _ _ _ _ _ _=>lP fun _=>rfl),
  AA.own X G (fun _ _ _ _ _ _=>re fun _ _=>rfl),
  AB.own X G (fun _ _ _ _ _ _=>lP fun _=>rfl),
  A5.own X G (fun _ _ _ _ _ _=>re fun _ _=>rfl),
  A6.own X G (fun _ _ _ _ _ _=>re fun _ _=>rfl),
  AU.own X G (fun _ _ _ _ _ _=>re fun _ _=>rfl),
  Bj.own X G (fun _ _ _ _ _ _=>re fun _ _=>rfl),
  A7.own X G (fun _ _ _ _ _ _=>lP fun _=>rfl),
  A8.own X G (fun _ _ _ _ _ _=>re fun _ _=>rfl),
  A9.own X G (fun _ _ _ _ _ _=>ze fun _ _ _ _=>rfl),
  Ak.own X G (fun _ _ _ _ _ _=>lP fun _=>rfl),
  Ag.own X G (fun _ _ _ _ _ _=>lP fun _=>rfl),
  Ap.own X G (fun _ _ _ _ _ _=>ze fun _ _ _ _=>rfl),
  AV.own X G (fun _ _ _ _ _ _=>ze fun _ _ _ _=>rfl),
  A_.own X G (fun _ _ _ _ _ _=>zd fun _ _ _=>rfl),
  Ay.own X G (fun _ _ _ _ _ _=>lP fun _=>rfl),
  AW.own X G (fun _ _ _ _ _ _=>re fun _ _=>rfl),
  Ba.own X G (fun _ _ _ _ _ _=>zN fun _ _ _ _ _=>rfl),
  AX.own X G (fun _ _ _ _ _ _=>lP fun _=>rfl),
  Al.own X G (fun _ _ _ _ _ _=>lP fun _=>rfl),
  AC.own X G (fun _ _ _ _ _ _=>re fun _ _=>rfl),
  Bl.own X G (fun _ _ _ _ _ _=>lP fun _=>rfl),
  AY.own X G (fun _ _ _ _ _ _=>lP fun _=>rfl),
  jA (x:="all") X G C8,
  jA (x:="bool") X G C8,
  jA (x:="enumerate") X G C8,
  jA (x:="isinstance") X G C8,
  jA (x:="len") X G C8,
  jA (x:="list") X G C8,
  jA (x:="max") X G C8,
  jA (x:="range") X G C8,
  jA (x:="reversed") X G C8,
  jA (x:="tuple") X G C8,
  jA (x:="zip") X G C8,
  AZ.kd X G⟩ O).ok⟩
def zf{l:PySem.W.OpenLaw}{q:Program}{loose:Vs}{XP:(Vr)->Heap->Prop}{YP:World->Heap->Prop}{d:DefRec}{K:Params->PySem.W.Frag}(hn:l.most=some 63)(hdf:d.params.defaults=[])
  (hY:∀(w:World) (h:Heap),YP w h->(K w.params).In h)
  (F:∀(w:World) (mg:Vr) (fa:Addr) (h:Heap),(K w.params).In h->h.Ns mainGlobals mg->mg d.name=some (.ref fa)->
   ∃fd:FuncData,(∀(s:Shared) (u:Value),BindsTo s fd ⟨[u],[]⟩ [("_law_script",u)])/\∀base:Heap,(K w.params).In base->base.Ns mainGlobals mg->jB l.prog w (K w.params) mg base qY 32 fa fd ["_law_script"] (xi (K w.params) 1 lL)) :
  PySem.W.WalkO q loose XP YP l.row.toRowW d [] (fun f vs=>PySem.call f vs):=
 L2.rY (n:=63) (k:=32) (x:="_law_script") (CX:=fun _=>qY) (sp:=fun w=>xi (K w.params) 1 lL) hn (by decide) hdf ⟨rfl,by decide,by decide,rfl⟩ hY F (fun _ _ a ns hl hO hS=>yS hO hS (qV ns hl)) fun _ _ _ _ _ z=>z
end G27
local macro_rules | `(tactic| walk_at "k")=>`(tactic| (apply L3.zO; k_is; k_is; k_is; k_is))
local macro_rules | `(tactic| walk_at "d")=>`(tactic| (apply L3.zQ; k_is; k_is; k_is; k_is; k_is; rfl))
open PySem PySem.W PyProof.Rows
set_option maxRecDepth 100000 in
set_option maxHeartbeats 0 in
theorem PySem.Challenge.cw_dueworth_k27_rows_come_to_holds : PySem.Challenge.rw_dueworth_k27_rows_come_to.Holds := by
 w_on; refine holds_law E27.said fun said => ?_
 refine holds_open (q := E27.vw) (loose := ["SIDES_FROM", "parts_reached"]) (Xt := fun s => (xlAt E27.vw [] s && recOk (RowW.records E27.rr) s)) (XP := XL E27.vw []) (N := 2350)
  (Yf := Hook.obs E27.hk) (Ya := Hook.val E27.hk) (YP := Hook.says (kHook E27.early.heap_1 E27.as E27.zg)) E27.left (Hook.of E27.hk) (Hook.keeps E27.hk) (fun s e => xl_of s (Kg.mp e).1)
  XL.keeps rfl rfl rfl (fun s e => recFacts_of (Kg.mp e).2) rfl (by assumption)
  (by decide +kernel) ⟨rfl, rfl, rfl, rfl, rfl, by decide +kernel⟩ ?hw ?hc
 (case hw => w_witness2)
 k_fill
 refine G27.zf (l := PySem.Challenge.rw_dueworth_k27_rows_come_to) rfl rfl (fun w h Y => PySem.W.kIn_of Y) ?F
 case F =>
  intro w mg fa h KX G hmg
  refine' G27.vV KX G hmg ?Bg ?Bh ?BR ?Bt ?AJ ?AK ?Ax ?A4 ?Bu ?Bi ?AA ?AB ?A5 ?A6 ?AU ?Bj ?A7 ?A8 ?A9 ?Ak ?Ag ?Ap ?AV ?A_ ?Ay ?AW ?Ba ?AX ?Al ?AC ?Bl ?AY ?AZ ?C8 ?Dr
  (case Bg => walk_at "k")
  (case Bh => walk_at "k")
  (case BR => walk_at "k")
  (case Bt => walk_at "k")
  (case AJ => walk_at "k")
  (case AK => walk_at "k")
  (case Ax => walk_at "d")
  (case A4 => walk_at "k")
  (case Bu => walk_at "k")
  (case Bi => walk_at "k")
  (case AA => walk_at "k")
  (case AB => walk_at "k")
  (case A5 => walk_at "k")
  (case A6 => walk_at "k")
  (case AU => walk_at "k")
  (case Bj => walk_at "k")
  (case A7 => walk_at "k")
  (case A8 => walk_at "k")
  (case A9 => walk_at "k")
  (case Ak => walk_at "k")
  (case Ag => walk_at "k")
  (case Ap => walk_at "k")
  (case AV => walk_at "k")
  (case A_ => walk_at "k")
  (case Ay => walk_at "k")
  (case AW => walk_at "k")
  (case Ba => walk_at "k")
  (case AX => walk_at "k")
  (case Al => walk_at "k")
  (case AC => walk_at "k")
  (case Bl => walk_at "k")
  (case AY => walk_at "k")
  (case AZ => apply L3.zP; k_is; k_is; rfl; exact L2.va _ w [("then", 1, _, _), ("either", 1, _, _), ("take", 3, _, _), ("often", 1, _, _)] _ (by decide +kernel))
  (case C8 => kernel_rfl)
  (case Dr => walk_at "k")
#print axioms PySem.Challenge.cw_dueworth_k27_rows_come_to_holds
