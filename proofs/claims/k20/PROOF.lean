import PyProof.Rows.All
import Wide.All
import OpenK.AllK
import Wide.FinOn
import Lean
import PyProof.EqAt
import PyProof.EqKinds
import PyProof.TupleCall
import PySem.Challenge.RW_dueworth_k20_tallies_of_traces
import Open.Tree
import Open.Head
section
set_option Elab.async false
set_option linter.all false
set_option maxRecDepth 100000
set_option maxHeartbeats 0
abbrev FO:=@PySem.wpAny_bind
abbrev FP:=@PySem.Heap.get?_push_of_some
abbrev FQ:=@Nat.le_refl
abbrev FT:=@decide_eq_true_eq
abbrev FU:=@PySem.Heap.lt_size
abbrev FW:=@PySem.wpAny_pure
abbrev FY:=@List.size_toArray
abbrev FZ:=@List.length_map
abbrev F0:=@PySem.Heap.get?_push_size
abbrev F1:=@Nat.lt_of_lt_of_le
abbrev F2:=@List.mem_cons
abbrev F3:=@List.length_append
abbrev F4:=@List.getElem?_map
abbrev F5:=@Bool.false_bne
abbrev F6:=@Nat.le_trans
abbrev F7:=@List.length_cons
abbrev F8:=@Bool.false_ne_true
abbrev F9:=@List.not_mem_nil
abbrev Ga:=@Nat.ne_of_lt
abbrev Gb:=@List.mem_append_right
abbrev Gd:=@List.map_cons
abbrev Ge:=@PySem.wpAny_field
abbrev Gf:=@List.replicate_succ
abbrev Gg:=@List.mem_map
abbrev Gh:=@List.mem_append
abbrev Gi:=@List.mem_singleton
abbrev Gj:=@PySem.wpAny_seqItems
abbrev Gk:=@PySem.wpAny_setField_rec
abbrev Gm:=@PySem.wpAny_pyIter_tuple
abbrev Gn:=@PyProof.Rows.slot_tuple_getitem
abbrev Gp:=@List.length_replicate
abbrev Gq:=@List.map_map
abbrev Gr:=@PySem.PassesOwn.never
abbrev Gs:=@PySem.wpAny_callSpecial?_slot
abbrev Gu:=@PySem.wpAny_pyIter_list
abbrev Gv:=@Nat.zero_le
abbrev Gw:=@List.map_congr_left
abbrev Gx:=@PyProof.Rows.callWith_type1
abbrev Gy:=@congrArg
abbrev Gz:=@List.all_eq_true
abbrev GA:=@Int.mul_le_mul_of_nonneg_right
abbrev GB:=@List.getElem?_append_left
abbrev GC:=@Int.mul_le_mul_of_nonneg_left
abbrev GD:=@PySem.Heap.size_push
abbrev GF:=@List.getElem?_eq_getElem
abbrev GG:=@decide_eq_false
abbrev GH:=@Option.some.inj
abbrev GI:=@List.nil_append
abbrev GJ:=@Nat.le_add_right
abbrev GK:=@Int.le_refl
abbrev GL:=@PySem.wpAny_newObj_type
abbrev GN:=@List.getElem?_append_right
abbrev GO:=@Int.toNat_natCast
abbrev GP:=@PySem.Heap.IsTuple.push
abbrev GQ:=@PySem.wpAny_loadPart'
abbrev GR:=@List.mem_cons_self
abbrev GS:=@List.length_take
abbrev GU:=@List.length_drop
abbrev GV:=@PySem.wpAny_call_entry
abbrev GW:=@PySem.Heap.IsList.push
abbrev GX:=@List.mem_cons_of_mem
abbrev GY:=@or_false
abbrev GZ:=@List.mem_of_mem_take
abbrev G0:=@Int.mul_nonneg
abbrev G1:=@Nat.pow_le_pow_right
abbrev G2:=@List.getElem?_replicate
abbrev G3:=@Int.eq_ofNat_of_zero_le
abbrev G4:=@List.length_nil
abbrev G5:=@PySem.F.slot_zip_next
abbrev G6:=@PySem.mem_of_lookup
abbrev G7:=@Option.map_eq_some_iff
abbrev G8:=@Int.le_of_lt
abbrev G9:=@Nat.lt_irrefl
abbrev Hf:=@PyProof.Rows.assignInOrder_cons
abbrev Hg:=@PySem.F.slot_tuple_iterator_next
abbrev Hh:=@List.getElem?_eq_none
abbrev Hi:=@List.getElem?_eq_some_iff
abbrev Hj:=@List.getElem?_zip_eq_some
abbrev Hl:=@PySem.wpAny_passesOwn
abbrev Ho:=@List.nodup_cons
abbrev Hq:=@List.mem_append_left
abbrev Hr:=@List.flatten_cons
abbrev Hs:=@PySem.wpAny_onRaise
abbrev Ht:=@Int.mul_ediv_cancel_left
abbrev Hu:=@Int.fdiv_eq_ediv_of_dvd
abbrev Hv:=@PySem.wpAny_mono
abbrev Hw:=@Nat.ne_of_gt
abbrev Hx:=@PySem.wpAny_Call_Name_kw
abbrev Hy:=@List.append_nil
abbrev Hz:=@PySem.Heap.get?_update_self
abbrev HA:=@List.length_singleton
abbrev HB:=@List.take_sublist
abbrev HC:=@Bool.and_eq_true_iff
abbrev HD:=@PySem.wpAny_rule
abbrev HE:=@PySem.call_meets
abbrev HF:=@List.mem_of_mem_drop
abbrev HG:=@Nat.pow_lt_pow_right
abbrev HH:=@if_true
abbrev HJ:=@List.map_nil
abbrev HK:=@PySem.F.slot_tuple_mul
abbrev HL:=@PySem.wpAny_holding
abbrev HM:=@PySem.F.args_tuple_add_2
abbrev HN:=@Bool.eq_iff_iff
abbrev HP:=@Int.natCast_pos
abbrev HQ:=@Int.ediv_nonneg
abbrev HR:=@PySem.tupleKind_room_in1
abbrev HS:=@Nat.lt_of_le_of_lt
abbrev HU:=@List.getElem?_drop
abbrev HV:=@Int.emod_lt_of_pos
abbrev HW:=@Int.mul_one
abbrev HX:=@PySem.F.entry_tuple_add
abbrev HY:=@PySem.wpAny_letGo
abbrev HZ:=@List.mem_range
abbrev Ia:=@Nat.le_of_lt
abbrev Ib:=@Ne.symm
abbrev Ic:=@PySem.wpAny_bindName
abbrev Ie:=@PySem.F.slot_tuple_add
abbrev Ig:=@Prod.ext
abbrev Ih:=@PySem.Heap.get?_update_other
abbrev Ii:=@List.reverse_cons
abbrev Ij:=@PySem.F.args_zip_next_1
abbrev Ik:=@List.length_range
abbrev Il:=@Int.mul_comm
abbrev Im:=@Nat.zero_add
abbrev Io:=@List.eraseIdxIfInBounds_toArray
abbrev Ip:=@Nat.le_of_ble_eq_true
abbrev Iq:=@Bool.and_eq_true
abbrev Ir:=@PySem.F.entry_zip_next
abbrev Iu:=@PySem.wpAny_pyIter_zip
abbrev Iw:=@Bool.true_bne
abbrev Iz:=@PySem.wpAny_updateSeq_pair
abbrev IA:=@Int.neg_mul
abbrev IB:=@Nat.add_mul
abbrev IC:=@List.mem_filter
abbrev ID:=@PySem.wpAny_execs_nil
abbrev IE:=@PySem.F.slot_int_rmul
abbrev IF:=@List.forIn_cons
abbrev IG:=@Int.emod_nonneg
abbrev II:=@List.map_append
abbrev IJ:=@beq_eq_false_iff_ne
abbrev IK:=@List.filterMap_cons
abbrev IL:=@Array.length_toList
abbrev IM:=@PySem.Heap.SameBut.update
abbrev IP:=@List.getElem?_range
abbrev IQ:=@Nat.mul_le_mul_left
abbrev IS:=@Nat.lt_trans
abbrev IU:=@Int.mul_zero
abbrev IV:=@Bool.false_eq_true
abbrev IW:=@Nat.not_le
abbrev IY:=@Option.isSome_map
abbrev IZ:=@List.any_cons
abbrev I9:=@Int.mul_assoc
abbrev Ja:=@List.filter_cons
abbrev Jb:=@Int.ediv_le_self
abbrev Jc:=@Int.zero_add
abbrev Jd:=@if_false
namespace ET
open PySem PySem.W PyProof.Rows
def fA(tb:String→Option Builtin)(p:Program)(w:World)(n₀:Nat)(ann:Option Value):Nat→SharedT→Thread→Option SharedT
 |0,_,_=>none
 |n+1,s,t=>match through t with
  |true=>some s
  |false=>match stepOk n₀ ann t with
   |false=>none
   |true=>match stepT (denote tb) p w s t with
    |some x=>fA tb p w n₀ ann n x.1 x.2
    |none=>none
theorem i_{tb:String→Option Builtin}{p:Program}{w:World}{n₀:Nat}{ann:Option Value}:∀{n:Nat} {s s':SharedT} {t:Thread},fA tb p w n₀ ann n s t=some s'→topRun tb p w n₀ ann n s.abs t=some s'.abs
 |0,_,_,_,h=>by cases h
 |n+1,s,s',t,h=>by
  unfold fA at h
  unfold topRun
  cases he:through t with
  |true=>rw[he]at h;cases h;rfl
  |false=>
   rw[he]at h
   cases hk:stepOk n₀ ann t with
   |false=>rw[hk]at h;cases h
   |true=>
    rw[hk]at h
    cases hs:stepT (denote tb) p w s t with
    |none=>rw[hs]at h;cases h
    |some r=>rw[hs]at h;rw[stepT_spec hs];exact i_ h
def va:List Obj→BT→Nat→Option (BT×Nat)
 |[],t,n=>some (t,n)
 |o::os,t,n=>match ((t.ins n o).get n).isSome with
  |true=>va os (t.ins n o) (n+1)
  |false=>none
theorem l9{life:Life}:∀{os:List Obj} {t t':BT} {n n':Nat},va os t n=some (t',n')→absHeap t' n' life=⟨(absHeap t n life).objs++os.toArray,life⟩
 |[],t,t',n,n',h=>by cases h;simp[absHeap]
 |o::os,t,t',n,n',h=>by
  unfold va at h
  cases g:((t.ins n o).get n).isSome with
  |false=>rw[g]at h;cases h
  |true=>
   rw[g]at h
   rw[l9 h,absHeap_ins g]
   simp[Heap.push]
def fB(tb:String→Option Builtin)(p:Program)(w:World)(N:Nat)(s₀:Shared):Option Shared:=
 match s₀.heap.isNs mainGlobals&&s₀.gens.size == 0 with
 |true=>match va s₀.heap.objs.toList .nil 0 with
  |some x=>match fA tb p w x.2 (s₀.heap.nsMap mainGlobals "__annotations__") N ⟨x.1,x.2,s₀.heap.life,s₀.gens,s₀.drawn,s₀.toks,s₀.os⟩ (topStub p)with
   |some s=>match staticsOk (importedModules p.main.body) s₀.heap s.abs.heap&&namesBound p s.abs.heap&&gensDone s.abs&&laidKept s₀.heap s.abs.heap with
    |true=>some s.abs
    |false=>none
   |none=>none
  |none=>none
 |false=>none
theorem lp{tb:String→Option Builtin}{p:Program}{w:World}{N:Nat}{s₀ s:Shared}(h:fB tb p w N s₀=some s):topFrom tb p w N s₀=some s:=by
 unfold fB at h
 unfold topFrom
 cases h1:s₀.heap.isNs mainGlobals&&s₀.gens.size == 0 with
 |false=>rw[h1]at h;cases h
 |true=>
  rw[h1]at h
  dsimp only at h ⊢
  cases h2:va s₀.heap.objs.toList .nil 0 with
  |none=>rw[h2]at h;cases h
  |some x=>
   rw[h2]at h
   dsimp only at h
   have e:=l9 (life:=s₀.heap.life) h2
   have e':absHeap x.1 x.2 s₀.heap.life=s₀.heap:=by
    rw[e]
    simp[absHeap,BT.list]
   have n':x.2=s₀.heap.objs.size:=by rw[←e',absHeap_size]
   cases h3:fA tb p w x.2 (s₀.heap.nsMap mainGlobals "__annotations__") N ⟨x.1,x.2,s₀.heap.life,s₀.gens,s₀.drawn,s₀.toks,s₀.os⟩ (topStub p)with
   |none=>rw[h3]at h;cases h
   |some r=>
    rw[h3]at h
    dsimp only at h
    have ea:SharedT.abs ⟨x.1,x.2,s₀.heap.life,s₀.gens,s₀.drawn,s₀.toks,s₀.os⟩=s₀:=by
     unfold SharedT.abs
     rw[e']
    have:=i_ h3
    rw[ea,n']at this
    rw[this]
    exact h
theorem lq{tb:String→Option Builtin}{p:Program}{w:World}{N:Nat}{s₀:Shared}{α:Type}{f:Shared→α}{a:α}(h:Option.map f (fB tb p w N s₀)=some a):Option.map f (topFrom tb p w N s₀)=some a:=by
 obtain⟨s,h1,h2⟩:=G7.mp h
 rw[lp h1]
 exact Gy some h2
def seenT(p q:Program)(loose:List Str)(Xt:Shared→Bool){α:Type}(Yf:Shared→α)(N:Nat)(u u':World):=
 Option.map (fun c=>Option.map (fun s=>(openSeen q loose (importedModules p.main.body) Xt true s,Yf s)) (fB treeTable p u' N c)) (fencedOpening treeTable p u N)
lay_quick seenT
theorem qz{p q:Program}{loose:List Str}{Xt:Shared→Bool}{α:Type}{Yf:Shared→α}{N:Nat}{u u':World}{r}(h:PySem.W.Fast.tw2787559817927863336 p q loose Xt Yf N u u'=r):seenT p q loose Xt Yf N u u'=r:=by
 rw[PySem.W.Fast.te2787559817927863336]
 exact h
theorem qA{p q:Program}{loose:List Str}{Xt:Shared→Bool}{α:Type}{Yf:Shared→α}{Ya:World→α}{N:Nat}
  (h:∀u:World,seenT p q loose Xt Yf N u u=some (some (openGood q loose,Ya u))):LeftO p q loose Xt Yf Ya N:=fun u=>by
 obtain⟨c,a,b⟩:=G7.mp (h u)
 unfold openEnds
 rw[a]
 exact lq b
theorem vb{p q:Program}{loose:List Str}{Xt:Shared→Bool}{α:Type}{Yf:Shared→α}{Ya:World→α}{N:Nat}(row:String)
  (h0:∀u:World,seenT p q loose Xt Yf N u (u.withFollow row false)=some (some (openGood q loose,Ya (u.withFollow row false))))
  (h1:∀u:World,seenT p q loose Xt Yf N u (u.withFollow row true)=some (some (openGood q loose,Ya (u.withFollow row true)))):LeftO p q loose Xt Yf Ya N:=fun u=>by
 obtain⟨c,a,b⟩:=G7.mp (h0 u)
 obtain⟨c',a',b'⟩:=G7.mp (h1 u)
 have hc:c'=c:=by rw[a]at a';cases a';rfl
 subst hc
 have b:=lq b
 have b':=lq b'
 have hu:=World.withFollow_self u row
 unfold openEnds
 rw[a]
 cases hb:u.params.followText row<;>rw[hb]at hu
 ·rw[hu]at b
  exact b
 ·rw[hu]at b'
  exact b'
end ET
namespace E20
open PySem PySem.W PyProof.Rows
abbrev tp(i:Nat):Stmt:=PySem.Challenge.pw_dueworth_k20_tallies_of_traces.main.body.getD i (.Pass ⟨0,0,0,0⟩)
/-- the text without what says nothing -/
def vw:Program:={ PySem.Challenge.pw_dueworth_k20_tallies_of_traces with main:={ PySem.Challenge.pw_dueworth_k20_tallies_of_traces.main with body:=[tp 1,tp 2,tp 3,tp 4,tp 6,tp 8,tp 9,tp 10,tp 11,tp 12,tp 13,tp 14,tp 15,tp 16,tp 17,tp 19,tp 20,tp 21,tp 22,tp 23,tp 24,tp 25,tp 26,tp 27,tp 28,tp 29,tp 30,tp 31,tp 32,tp 33,tp 34,tp 35,tp 36,tp 37,tp 38] } }
abbrev rr:RowW:=OpenRow.toRowW (OpenLaw.row PySem.Challenge.rw_dueworth_k20_tallies_of_traces)
local macro_rules | `(tactic| o_head $H)=>`(tactic|
 refine holds_open (q:=vw) (loose:=[]) (Xt:=fun s=>(xlAt vw [] s&&recOk (RowW.records rr) s)) (XP:=XL vw []) (N:=2296)
  (Yf:=Hook.obs $H) (Ya:=Hook.val $H) (YP:=Hook.says $H) ?hl (Hook.of $H) (Hook.keeps $H) (fun s e=>xl_of s (HC.mp e).1)
  XL.keeps rfl rfl rfl (fun s e=>recFacts_of (HC.mp e).2) rfl (by assumption)
  (by decide +kernel) ⟨rfl,rfl,rfl,rfl,rfl,by decide +kernel⟩ ?hw ?hc)
/-- the law is well said: by the quick twin of the look,with no twin of the program -/
theorem said:OpenLaw.wellSaid PySem.Challenge.rw_dueworth_k20_tallies_of_traces=true:=(congrFun PySem.W.Fast.te9446332074065402090 _).trans (by kernel_rfl)
/-- says nothing; what lies in the heap is written down by the way -/
theorem early(h:∀P:Prop,P):PySem.Challenge.rw_dueworth_k20_tallies_of_traces.Holds:=by
 w_on;refine holds_law said fun said=>?_;k_head
 all_goals exact h _
abbrev as:List Addr:=[2,3,15,17,18,20,21,22,24,25,27,28,29,31,32,34,35,36,38,39,41,42,43,45,46,48,49,50,53,54,55,58,59,60,63,64,65,67,68,70,71,72,75,76,77,80,81,82,84,85,87,88,89,91,92,94,95,96,98,99,101,102,103,105,106,108,109,110,113,114,115,117,118,120,121,122,125,126,127,129,130,132,133,134,136,137,139,140,141,143,144,146,147,148,150,151,153,154,155,157,158,160,161,162,164,165,167,168,169,171,172,174,175,176,178,179,181,182,183,186,187,188,191,192,193,195,196,198,199,200,203,204,205,208,209,210,213,214,215,217,218,220,221,222,224,225,227,228,229,231,232,234,235]
theorem ya(P:Params):as=(early.heap_1 P).map (·.1):=by kernel_rfl
noncomputable abbrev hk:Hook:=kHook early.heap_1 as ya
theorem vc(u:World):ET.seenT (OpenLaw.row PySem.Challenge.rw_dueworth_k20_tallies_of_traces).prog vw [] (fun s=>(xlAt vw [] s&&recOk (RowW.records rr) s)) (Hook.obs hk) 2296 u u=some (some (openGood vw [],Hook.val hk u)):=ET.qz (by kernel_rfl)
theorem left:LeftO (OpenLaw.row PySem.Challenge.rw_dueworth_k20_tallies_of_traces).prog vw [] (fun s=>(xlAt vw [] s&&recOk (RowW.records rr) s)) (Hook.obs hk) (Hook.val hk) 2296:=ET.qA vc
end E20
end
open PySem in
abbrev Vq:=Value->Shared->Prop
open PySem in
abbrev Va:=List (Addr×Obj)
open PySem in
abbrev Vo:=PySem.W.Frag
open PySem in
abbrev Vr:=Str->Option Value
open PySem in
abbrev Vs:=List Str
open PySem in
abbrev Vu:=List Int
open PySem in
abbrev Vv:=List Value
open PySem in
abbrev Vw:=Array Value
set_option Elab.async false
set_option linter.all false
set_option maxRecDepth 100000
namespace L2
open PySem PySem.Spec PyProof.Rows
abbrev bt:=Sum Int Str
noncomputable def ja:bt->Value->Bool
 | .inl k,v=>Value.isInt k v
 | .inr x,v=>Value.isStrOf x v
noncomputable def wS(w:World):bt->Int
 | .inl k=>hashInt k
 | .inr x=>hashStr w x
theorem aU:∀{k:bt} {v:Value},ja k v=true->(∃i t,k=Sum.inl i/\v=Value.int i t)\/(∃x t,k=Sum.inr x/\v=Value.str x t)
 | .inl i,v,h=>by
  obtain⟨t,e⟩:=Value.isInt_shape (k:=i) (v:=v) h
  exact .inl ⟨i,t,rfl,e⟩
 | .inr x,v,h=>by
  obtain⟨t,e⟩:=Value.isStrOf_shape (x:=x) (v:=v) h
  exact .inr ⟨x,t,rfl,e⟩
def mO(i:Int)(t:Tok):ja (.inl i) (.int i t)=true:=by simp[ja,Value.isInt]
def mP(x:Str)(t:Tok):ja (.inr x) (.str x t)=true:=by simp[ja,Value.isStrOf]
def sN(a b:Int):decide ((Sum.inl a:bt)=Sum.inl b)=(a == b):=by
 by_cases e:a=b
 ·subst e;simp
 ·have h:¬(Sum.inl a:bt)=Sum.inl b:=fun q=>e (Sum.inl.inj q)
  rw[GG h]
  exact(IJ.mpr e).symm
def sO(a b:Str):decide ((Sum.inr a:bt)=Sum.inr b)=decide (a=b):=by
 by_cases e:a=b
 ·subst e;simp
 ·have h:¬(Sum.inr a:bt)=Sum.inr b:=fun q=>e (Sum.inr.inj q)
  rw[GG h,GG e]
def sP(a:Int)(b:Str):decide ((Sum.inl a:bt)=Sum.inr b)=false:=GG (fun q=>nomatch q)
def sQ(a:Str)(b:Int):decide ((Sum.inr a:bt)=Sum.inl b)=false:=GG (fun q=>nomatch q)
noncomputable def a8(prog:Program)(w:World):PySem.KeyKind prog w bt where
 is:=ja
 hash:=wS w
 inj:=fun v a b ha hb=>by
  rcases aU ha with⟨i,t,rfl,rfl⟩|⟨x,t,rfl,rfl⟩
  ·rcases aU hb with⟨j,u,rfl,e⟩|⟨y,u,rfl,e⟩
   ·injection e with e1 _;rw[e1]
   ·exact nomatch e
  ·rcases aU hb with⟨j,u,rfl,e⟩|⟨y,u,rfl,e⟩
   ·exact nomatch e
   ·injection e with e1 _;rw[e1]
 byValue:=fun k v h=>by
  rcases aU h with⟨i,t,rfl,rfl⟩|⟨x,t,rfl,rfl⟩<;>rfl
 pyHash:=fun hv h=>by
  rcases aU hv with⟨i,t,rfl,rfl⟩|⟨x,t,rfl,rfl⟩
  ·exact wpAny_pyHash_int h
  ·exact wpAny_pyHash_str h
 eqBool:=fun hu hv h=>by
  rcases aU hu with⟨i,t,rfl,rfl⟩|⟨x,t,rfl,rfl⟩
  ·rcases aU hv with⟨j,u,rfl,rfl⟩|⟨y,u,rfl,rfl⟩
   ·rw[sN]at h;exact wpAny_eqBool_int h
   ·rw[sP]at h;exact SeqAt.EqAt.int_str i t y u _ _ _ _ h
  ·rcases aU hv with⟨j,u,rfl,rfl⟩|⟨y,u,rfl,rfl⟩
   ·rw[sQ]at h;exact SeqAt.EqAt.str_int x t j u _ _ _ _ h
   ·rw[sO]at h;exact wpAny_eqBool_str h
 «strs»:=fun k x t v h=>by
  rcases aU h with⟨i,u,rfl,e⟩|⟨y,u,rfl,e⟩
  ·exact nomatch e
  ·injection e with e1 _
   subst e1
   cases v<;>rfl
def kD(prog:Program)(w:World)(i:Int)(t:Tok):(a8 prog w).is (.inl i) (.int i t)=true:=mO i t
def kE(prog:Program)(w:World)(x:Str)(t:Tok):(a8 prog w).is (.inr x) (.str x t)=true:=mP x t
inductive V where
 |non|bl (b:Bool)|int (i:Int)|str (x:Str)|BS (b:Array UInt8)|DA (b:UInt64)|ref (a:Addr)|ty (n:String)
 deriving DecidableEq
noncomputable def RelV:V->Value->Prop
 | .non,u=>u=Value.none
 | .bl b,u=>u=Value.bool b
 | .int i,u=>∃t,u=Value.int i t
 | .str x,u=>∃t,u=Value.str x t
 | .BS b,u=>∃t,u=Value.bytes b t
 | .DA b,u=>∃t,u=Value.float b t
 | .ref a,u=>u=Value.ref a
 | .ty n,u=>u=Value.type n
noncomputable abbrev Vals:List V->List Value->Prop:=Paired RelV
theorem Vals.length{xs:List V}{us:Vv}(r:Vals xs us):xs.length=us.length:=Paired.length r
theorem Vals.get:∀{xs:List V} {us:Vv} {i:Nat} {x:V},Vals xs us->xs[i]?=some x->∃u,us[i]?=some u/\RelV x u
 |_,_,_,_,.nil,e=>by simp at e
 |_,_,0,_,.cons r _,e=>by simp at e;subst e;exact⟨_,rfl,r⟩
 |_,_,i+1,x,.cons _ t,e=>by
  obtain⟨u,h1,h2⟩:=Vals.get (i:=i) (x:=x) t (by simpa using e)
  exact⟨u,by simpa using h1,h2⟩
theorem Vals.set{x:V}{u:Value}(r:RelV x u):∀{xs:List V} {us:Vv} (i:Nat),Vals xs us->Vals (xs.set i x) (us.set i u)
 |_,_,_,.nil=>.nil
 |_,_,0,.cons _ t=>.cons r t
 |_,_,i+1,.cons q t=>.cons q (Vals.set r i t)
theorem Vals.append:∀{xs ys:List V} {us ws:Vv},Vals xs us->Vals ys ws->Vals (xs++ys) (us++ws)
 |_,_,_,_,.nil,s=>s
 |_,_,_,_,.cons r t,s=>.cons r (Vals.append t s)
theorem Vals.take:∀{xs:List V} {us:Vv} (n:Nat),Vals xs us->Vals (xs.take n) (us.take n)
 |_,_,0,_=>.nil
 |_,_,_+1,.nil=>.nil
 |_,_,n+1,.cons r t=>.cons r (Vals.take n t)
theorem Vals.drop:∀{xs:List V} {us:Vv} (n:Nat),Vals xs us->Vals (xs.drop n) (us.drop n)
 |_,_,0,r=>r
 |_,_,_+1,.nil=>.nil
 |_,_,n+1,.cons _ t=>Vals.drop n t
noncomputable def RelO:Option V->Option Value->Prop
 |some v,some u=>RelV v u
 |none,none=>True
 |_,_=>False
noncomputable def KV{κ:Type}:List (κ×V)->List (κ×Value)->Prop:=Paired fun(p:κ×V) (q:κ×Value)=>p.1=q.1/\RelV p.2 q.2
noncomputable def kV:bt->V
 | .inl i=>.int i
 | .inr x=>.str x
inductive HO where
 /-- a list -/
 |lst (xs:List V)
 /-- a tuple (never changes) -/
 |tup (xs:List V)
 /-- a dict whose keys are ints and texts; one whose keys are tuples of ints and texts (the empty one is both) -/
 |dK (kvs:List (bt×V))|dT (kvs:List (List bt×V))
 /-- a set of ints: its members,its size -/
 |set (S:Int->Bool) (n:Nat)
 /-- an instance of the class at C,its dict at dx,its attributes -/
 |ins (C dx:Addr) (fs:List (Str×V))
 /-- the dict of the instance at x -/
 |own (x:Addr)
 /-- the dict of an exception -/
 |xd (fs:List (Str×V))
 /-- a bound method,f of x -/
 |met (f x:Addr)
 /-- a range object lo,lo + 1,.. below hi -/
 |DB (lo hi:Int)
 /-- a thing that is known to the object (the script; a dict while a loop walks it): read,never written while it is so -/
 |frz (o:Obj) (u:HO)
 /-- a code object's table -/
 |Cr (ps:Vw)
 /-- any other thing,by what is true of its one object (a def of Eu own: E7 a S n:=HO.ext fun h=>..) -/
 |ext (φ:Heap->Prop)
abbrev Hp:=Addr->Option HO
noncomputable def upd(H:Hp)(a:Addr)(o:HO):Hp:=fun b=>if b=a then some o else H b
def aA{H:Hp}{a:Addr}{o:HO}:upd H a o a=some o:=by unfold upd;rw[if_pos rfl]
def ax{H:Hp}{a b:Addr}{o:HO}(h:b≠a):upd H a o b=H b:=by unfold upd;rw[if_neg h]
def vd{H:Hp}{a b:Addr}{o u:HO}(h:H a=some o)(h':H b=some u)(d:o≠u):a≠b:=by
 intro e;subst e;rw[h]at h';exact d (GH h')
def aN{H:Hp}{a b:Addr}{o:HO}(h:H a=some o)(h':H b=none):a≠b:=by
 intro e;subst e;rw[h]at h';cases h'
def zi(h:Heap)(a:Addr)(its:Vw):Prop:=∃o,h.get? a=some o/\o.dict=none/\o.cls = .type "tuple"/\∃n,o.data = .seq its n
def zi.tup{h:Heap}{a:Addr}{its:Vw}(x:zi h a its):IsTup h a its:=let ⟨o,e,_,c,d⟩:=x;⟨o,e,c,d⟩
def zi.new(h:Heap)(its:Vw):zi (h.push { cls:=.type "tuple",data:=.seq its }) h.objs.size its:=⟨_,F0 _ rfl,rfl,rfl,_,rfl⟩
section
variable (P:Program) (w:World)
noncomputable def yY(H:Hp)(h:Heap)(a:Addr):HO->Prop
 | .lst xs=>xs.length<=sizeLine/\∃(its:Vv) (n:Nat),Vals xs its/\h.get? a=some { cls:=.type "list",data:=.seq its.toArray n }
 | .tup xs=>xs.length<=sizeLine/\∃its:List Value,Vals xs its/\zi h a its.toArray
 | .dK kvs=>kvs.length<=sizeLine/\(a == sysModules)=false/\∃vs,KV kvs vs/\h.DictOf (a8 P w) a vs
 | .dT kvs=>kvs.length<=sizeLine/\(a == sysModules)=false/\∃xs:List (List bt×Addr×Value),
   Paired (fun(p:List bt×V) (q:List bt×Addr×Value)=>p.1=q.1/\H q.2.1=some (.tup (p.1.map kV))/\RelV p.2 q.2.2) kvs xs/\
   ∃o es ep,h.get? a=some o/\o.ExactDict/\o.data = .dict es ep/\es.toList=xs.map (entryOfKey (tupleKind (a8 P w)))/\(xs.map (·.1)).Nodup
 | .set S n=>h.SetOf (intKind P w) a S n
 | .ins C dx fs=>H dx=some (.own a)/\fs.length<=1000/\dx≠a/\h.get? a=some (PySem.W.instObj C dx)/\
   ∃mA,h.Ns1 dx mA/\(∀f,RelO (fs.lookup f) (mA f))/\PySem.Within mA (fs.map (·.1))
 | .own _=>∃o,h.get? a=some o
 | .xd fs=>∃mA,h.Ns1 a mA/\∀f,RelO (fs.lookup f) (mA f)
 | .DB lo hi=>∃t u v,h.get? a=some { cls:=.type "range",data:=.fields #[.int lo t,.int hi u,.int 1 v] }
 | .frz o u=>h.get? a=some o/\yY H h a u
 | .Cr ps=>h.get? a=some { cls:=.none,data:=.fields ps }
 | .met f x=>h.get? a=some (PySem.W.methodObj (.ref f) (.ref x))
 | .ext φ=>φ h/\(∃o,h.get? a=some o)/\∀h1 h2:Heap,φ h1->(∀o,h1.get? a=some o->h2.get? a=some o)->φ h2
def z_(H:Hp)(h:Heap):Prop:=∀a o,H a=some o->yY P w H h a o
end
section
variable {P:Program} {w:World} {H H':Hp} {h h':Heap} {a:Addr} {o:HO}
theorem yY.lt(x:yY P w H h a o):a < h.objs.size:=by
 cases o with
 |lst xs=>obtain⟨_,_,_,_,e⟩:=x;exact FU e
 |tup xs=>obtain⟨_,_,_,p⟩:=x;exact p.tup.lt
 |dK kvs=>obtain⟨_,_,_,_,o,_,_,e,_⟩:=x;exact FU e
 |dT kvs=>obtain⟨_,_,_,_,o,_,_,e,_⟩:=x;exact FU e
 |set S n=>obtain⟨o,_,_,_,e,_⟩:=x;exact FU e
 |ins C dx fs=>obtain⟨_,_,_,e,_⟩:=x;exact FU e
 |own y=>obtain⟨_,e⟩:=x;exact FU e
 |xd fs=>obtain⟨_,⟨_,_,_,e,_⟩,_⟩:=x;exact FU e
 |DB lo hi=>obtain⟨_,_,_,e⟩:=x;exact FU e
 |frz ob u=>obtain⟨e,_⟩:=x;exact FU e
 |Cr ps=>exact FU (show h.get? a=some _ from x)
 |met f y=>exact FU (show h.get? a=some _ from x)
 |ext φ=>obtain⟨_,⟨_,e⟩,_⟩:=x;exact FU e
theorem Paired.Cs{α β:Type}{F G:α->β->Prop}:∀{l₁:List α} {l₂:List β},Paired F l₁ l₂->(∀a b,F a b->G a b)->Paired G l₁ l₂
 |_,_,.nil,_=>.nil
 |_,_,.cons r t,f=>.cons (f _ _ r) (Paired.Cs t f)
def yY.stay(x:yY P w H h a o)(k:∀b u,(b=a\/H b=some (.own a))->h.get? b=some u->h'.get? b=some u)
  (ho:∀b,H b=some (.own a)->H' b=some (.own a)) (ht:∀b xs,H b=some (.tup xs)->H' b=some (.tup xs)):yY P w H' h' a o:=by
 induction o with
 |lst xs=>obtain⟨z,its,n,r,e⟩:=x;exact⟨z,its,n,r,k _ _ (.inl rfl) e⟩
 |tup xs=>obtain⟨z,its,r,ob,e,c⟩:=x;exact⟨z,its,r,ob,k _ _ (.inl rfl) e,c⟩
 |dK kvs=>obtain⟨z,y,vs,r,ob,es,ep,e,c⟩:=x;exact⟨z,y,vs,r,ob,es,ep,k _ _ (.inl rfl) e,c⟩
 |dT kvs=>
  obtain⟨z,y,xs,r,ob,es,ep,e,c⟩:=x
  exact⟨z,y,xs,Paired.Cs r fun p q z=>⟨z.1,ht _ _ z.2.1,z.2.2⟩,ob,es,ep,k _ _ (.inl rfl) e,c⟩
 |set S n=>obtain⟨ob,es,ep,t,e,c⟩:=x;exact⟨ob,es,ep,t,k _ _ (.inl rfl) e,c⟩
 |ins C dx fs=>
  obtain⟨d,z,ne,e,mA,⟨od,es,ep,e2,c⟩,r⟩:=x
  exact⟨ho _ d,z,ne,k _ _ (.inl rfl) e,mA,⟨od,es,ep,k _ _ (.inr d) e2,c⟩,r⟩
 |own y=>obtain⟨ob,e⟩:=x;exact⟨ob,k _ _ (.inl rfl) e⟩
 |xd fs=>obtain⟨mA,⟨od,es,ep,e,c⟩,r⟩:=x;exact⟨mA,⟨od,es,ep,k _ _ (.inl rfl) e,c⟩,r⟩
 |DB lo hi=>obtain⟨t,u,v,e⟩:=x;exact⟨t,u,v,k _ _ (.inl rfl) e⟩
 |frz ob u ih=>obtain⟨e,q⟩:=x;exact⟨k _ _ (.inl rfl) e,ih q⟩
 |Cr ps=>
  have e:h.get? a=some { cls:=.none,data:=.fields ps }:=x
  show h'.get? a=some { cls:=.none,data:=.fields ps }
  exact k a _ (.inl rfl) e
 |met f y=>
  have e:h.get? a=some (PySem.W.methodObj (.ref f) (.ref y)):=x
  show h'.get? a=some (PySem.W.methodObj (.ref f) (.ref y))
  exact k a _ (.inl rfl) e
 |ext φ=>obtain⟨p,⟨o,e⟩,st⟩:=x;exact⟨st _ _ p fun o q=>k _ _ (.inl rfl) q,⟨o,k _ _ (.inl rfl) e⟩,st⟩
theorem z_.lt(x:z_ P w H h)(e:H a=some o):a < h.objs.size:=(x a o e).lt
def z_.fresh(x:z_ P w H h)(e:h.objs.size<=a):H a=none:=by
 cases q:H a with
 |none=>rfl
 |some u=>exact absurd (F1 (x.lt q) e) (G9 _)
def z_.kept(x:z_ P w H h)(k:∀b u,h.get? b=some u->h'.get? b=some u):z_ P w H h':=fun a o e=>
 (x a o e).stay (fun b u _ q=>k b u q) (fun _ q=>q) fun _ _ q=>q
def z_.laid(x:z_ P w H h)(k:∀b u,h.get? b=some u->h'.get? b=some u)(hp:h.objs.size<=a)(new:yY P w (upd H a o) h' a o):z_ P w (upd H a o) h':=fun b u e=>by
 have hn:=x.fresh hp
 by_cases hb:b=a
 ·subst hb;rw[aA]at e;cases e;exact new
 ·rw[ax hb]at e
  exact(x b u e).stay (fun c v _ q=>k c v q) (fun c q=>by rw[ax (aN q hn)];exact q) fun c xs q=>by rw[ax (aN q hn)];exact q
end
def Rd(H:Hp)(a:Addr)(u:HO):Prop:=H a=some u\/∃o,H a=some (.frz o u)
def Rd.ok{P:Program}{w:World}{H:Hp}{h:Heap}{a:Addr}{u:HO}(r:Rd H a u)(x:z_ P w H h):yY P w H h a u:=by
 rcases r with r|⟨o,r⟩
 ·exact x a u r
 ·obtain⟨_,q⟩:=x a _ r
  exact q
noncomputable def ve:Option HO->Prop
 |some (.lst _)=>True
 |some (.dK _)=>True
 |some (.dT _)=>True
 |some (.set _ _)=>True
 |some (.ins _ _ _)=>True
 |some (.ext _)=>True
 |_=>False
section
variable {P:Program} {w:World} {H:Hp} {h h':Heap} {x e:Addr} {o':HO}
def z_.write(ok:z_ P w H h)(mu:ve (H x))(he:e=x\/H e=some (.own x))(k:∀b u,b≠e->h.get? b=some u->h'.get? b=some u)(CQ:∃u,h'.get? e=some u)
  (new:yY P w (upd H x o') h' x o'):z_ P w (upd H x o') h':=fun b u q=>by
 have C0:∀c y,H c=some (.own y)->c≠x:=fun c y r z=>by subst z;rw[r]at mu;exact mu
 have DC:∀c xs,H c=some (.tup xs)->c≠x:=fun c xs r z=>by subst z;rw[r]at mu;exact mu
 by_cases hb:b=x
 ·subst hb;rw[aA]at q;cases q;exact new
 ·rw[ax hb]at q
  by_cases Ct:b=e
  ·have q':H b=some (.own x):=by
    rcases he with z|z
    ·exact absurd (Ct.trans z) hb
    ·rw[Ct];exact z
   rw[q]at q';cases q'
   obtain⟨v,hv⟩:=CQ
   exact⟨v,by rw[Ct];exact hv⟩
  ·refine(ok b u q).stay (fun c v hc r=>k c v ?_ r) (fun c r=>by rw[ax (C0 c b r)];exact r) fun c xs r=>by rw[ax (DC c xs r)];exact r
   rcases hc with rfl|hc
   ·exact Ct
   ·rintro rfl
    rcases he with z|z
    ·exact C0 c b hc z
    ·rw[hc]at z;cases z;exact hb rfl
end
structure Un (fs ex:List Addr) (H H':Hp) (h h':Heap):Prop where
 keep:∀b o,h.get? b=some o->H b=none->b ∉ fs->b ∉ ex->h'.get? b=some o
 slot:∀b o,h.get? b=some o->H b=none->b∈fs->b ∉ ex->∃sl,h'.get? b=some { o with slots:=sl }
 free:∀b o,h.get? b=some o->H b=none->b ∉ ex->H' b=none
 there:∀b o,h.get? b=some o->b ∉ ex->∃o',h'.get? b=some o'
 tups:∀b xs,H b=some (.tup xs)->H' b=some (.tup xs)
 Ba:∀b o u,H b=some (.frz o u)->H' b=some (.frz o u)
 Bp:∀b ps,H b=some (.Cr ps)->∃more,H' b=some (.Cr (ps++more))
section
variable {fs fs' ex ex':List Addr} {H H1 H2:Hp} {h h1 h2 h':Heap} {a x e:Addr} {o:HO}
def Un.any(u:Un fs ex H H1 h h1){b:Addr}{ob:Obj}(q:h.get? b=some ob)(n:H b=none)(hx:b ∉ ex):∃sl,h1.get? b=some { ob with slots:=sl }:=by
 by_cases hb:b∈fs
 ·exact u.slot b ob q n hb hx
 ·exact⟨ob.slots,u.keep b ob q n hb hx⟩
def Un.kept(k:∀b u,h.get? b=some u->h'.get? b=some u):Un fs ex H H h h':=
 ⟨fun b ob q _ _ _=>k b ob q,fun b ob q _ _ _=>⟨ob.slots,k b ob q⟩,fun _ _ _ n _=>n,fun b ob q _=>⟨ob,k b ob q⟩,fun _ _ q=>q,fun _ _ _ q=>q,fun _ ps q=>⟨#[],by rw[q];simp⟩⟩
def Un.refl:Un fs ex H H h h:=Un.kept fun _ _ q=>q
def Un.laid(k:∀b u,h.get? b=some u->h'.get? b=some u)(hp:h.objs.size<=a)(hn:H a=none):Un fs ex H (upd H a o) h h' where
 keep:=fun b u q _ _ _=>k b u q
 slot:=fun b u q _ _ _=>⟨u.slots,k b u q⟩
 free:=fun b u q n _=>by rw[ax (Ga (F1 (FU q) hp))];exact n
 there:=fun b u q _=>⟨u,k b u q⟩
 tups:=fun b xs q=>by rw[ax (aN q hn)];exact q
 Ba:=fun b u xs q=>by rw[ax (aN q hn)];exact q
 Bp:=fun b ps q=>⟨#[],by rw[ax (aN q hn),q];simp⟩
def Un.write(mu:ve (H x))(he:e=x\/H e=some (.own x))(k:∀b u,b≠e->h.get? b=some u->h'.get? b=some u)(CQ:∃u,h'.get? e=some u):Un fs ex H (upd H x o) h h':=by
 have hx:∀b,H b=none->b≠x:=fun b n z=>by subst z;rw[n]at mu;exact mu
 have hb:∀b,H b=none->b≠e:=fun b n z=>by
  subst z
  rcases he with r|r
  ·exact hx b n r
  ·rw[n]at r;cases r
 have hm:∀b u,H b=some u->¬ve (some u)->b≠x:=fun b u q nm z=>by subst z;rw[q]at mu;exact nm mu
 refine⟨fun b u q n _ _=>k b u (hb b n) q,fun b u q n _ _=>⟨u.slots,k b u (hb b n) q⟩,fun b u q n _=>by rw[ax (hx b n)];exact n,fun b u q _=>?_,
  fun b xs q=>by rw[ax (hm b _ q fun z=>z)];exact q,fun b u xs q=>by rw[ax (hm b _ q fun z=>z)];exact q,fun b ps q=>⟨#[],by rw[ax (hm b _ q fun z=>z),q];simp⟩⟩
 by_cases Ct:b=e
 ·subst Ct;exact CQ
 ·exact⟨u,k b u Ct q⟩
end
noncomputable def wE(h:Heap)(H:Hp):List Addr:=(List.range h.objs.size).filter fun a=>(H a).isSome
noncomputable def jI(h:Heap)(H:Hp):Heap:=PySem.W.hideAll h (wE h H)
def mQ(h:Heap)(H:Hp):(jI h H).objs.size=h.objs.size:=PySem.W.hideAll_size _ _
def nU{h:Heap}{H:Hp}{b:Addr}{o:Obj}(e:h.get? b=some o)(n:H b=none):(jI h H).get? b=some o:=
 PySem.W.hideAll_get _ e fun hm=>by
  have q:(H b).isSome=true:=(IC.mp hm).2
  rw[n]at q;simp at q
def qB{h:Heap}{H:Hp}{b:Addr}{o:Obj}(e:(jI h H).get? b=some o):h.get? b=some o/\H b=none:=by
 have e':h.get? b=some o:=PySem.W.of_hideAll (wE h H) e
 refine⟨e',?_⟩
 cases q:H b with
 |none=>rfl
 |some x=>
  have hm:b∈wE h H:=IC.mpr ⟨HZ.mpr (FU e'),by simp[q]⟩
  have z:(jI h H).get? b=none:=PySem.W.hideAll_none (wE h H) hm
  rw[z]at e;cases e
structure Mod (K:Vo) (mg:Vr) (base:Heap):Prop where
 DD:K.In base
 glob:base.Ns mainGlobals mg
 blt:∃mb,base.Ns builtinsNs mb/\∀x:Str,x ≠ "__name__"->mb x=bootBuiltins x
 nolimit:base.NoLimit
structure Cx where
 prog:Program
 w:World
 K:Vo
 mg:Vr
 base:Heap
 A:Around
 N:List Str
 s₀:Shared
 H₀:Hp
 env:Env
 outer:List Env
 stack:List Env
 ex:List Addr
 fn:Str->Bool
 calm:Bool
 pn:Va
 xe:Value->Shared->Prop
noncomputable def frs(l:List Env):List Addr:=l.filterMap (·.frame)
noncomputable abbrev Cx.fs(X:Cx):List Addr:=frs X.outer
def wF(sc:Scope)(x:Str):Prop:=sc.names.lookup x=some .local\/sc.names.lookup x=some .cell\/sc.names.lookup x=some .free
def sn(sc:Scope)(x:Str):Prop:=sc.names.lookup x=some .local\/sc.names.lookup x=some .cell
def wT(env:Env)(h:Heap)(m:Vr)(x:Str)(u:Value):Prop:=
 (env.kindOf x=some .local/\m x=some u)\/((env.kindOf x=some .cell\/env.kindOf x=some .free)/\∃c,env.cells.lookup x=some c/\h.IsCell c (some u))
structure Cx.Ok (X:Cx):Prop where
 mod:Mod X.K X.mg X.base
 kind:X.env.scope.kind = .function
 glob:X.env.globals=mainGlobals
 blt:X.env.builtins=builtinsNs
 above:X.s₀.heap.objs.size<=X.env.locals
 inj:∀x y c,X.env.cells.lookup x=some c->X.env.cells.lookup y=some c->x=y
 has:∀x,(X.env.kindOf x=some .cell\/X.env.kindOf x=some .free)->∃c,X.env.cells.lookup x=some c
 CS:∀x c,X.fn x=true->X.env.cells.lookup x=some c->X.s₀.heap.objs.size<=c
 hd:X.calm=true->X.A.handled=none
 frames:X.A.frames=some X.stack
 stk:X.stack=X.outer\/(X.stack=X.env::X.outer/\X.env.frame=some X.env.locals)
 DE:∀b∈X.ex,b≠X.env.locals/\∀x c,X.env.cells.lookup x=some c->c≠b
 bs:∀b o,X.base.get? b=some o->X.s₀.heap.get? b=some o/\X.H₀ b=none
 B_:X.base.objs.size<=X.s₀.heap.objs.size
 BL:∀b o,X.base.get? b=some o->b ∉ X.ex
 BU:∀b∈X.ex,b ∉ X.fs
 AM:X.s₀.heap.FunFrames X.base X.outer
 Cu:∀b∈X.fs,X.H₀ b=none
structure Inv (X:Cx) (pins:Va) (σ:List (Option V)) (H:Hp) (s:Shared):Prop where
 ok:X.Ok
 os:s.os=X.s₀.os
 bare:AllBare s.gens
 base:Un X.fs X.ex X.H₀ H X.s₀.heap s.heap
 loc:∃m,s.heap.Ns X.env.locals m/\∀(i:Nat) (x:Str) (v:V),X.N[i]?=some x->σ[i]?=some (some v)->wF X.env.scope x->∃u,RelV v u/\wT X.env s.heap m x u
 cell:∀x c,X.env.cells.lookup x=some c->∃v,s.heap.IsCell c v
 free:H X.env.locals=none
 zR:∀x c,X.env.cells.lookup x=some c->H c=none
 pin:∀p∈X.pn++pins,s.heap.get? p.1=some p.2/\H p.1=none/\p.1≠X.env.locals/\p.1 ∉ X.fs/\∀v,p.2.data ≠ .cell v
 hok:z_ X.prog X.w H s.heap
 len:σ.length=X.N.length
section
variable {X:Cx} {pins:Va} {σ:List (Option V)} {H H':Hp} {s:Shared} {h':Heap}
def Cx.Ok.DF(ok:X.Ok){b:Addr}{o:Obj}(e:X.base.get? b=some o):b ∉ X.fs:=fun hb=>by
 have:=(ok.AM.mem hb).1
 rw[e]at this;cases this
theorem Inv.bs(I:Inv X pins σ H s):∀b o,X.base.get? b=some o->s.heap.get? b=some o/\H b=none:=fun b o e=>
 ⟨I.base.keep b o (I.ok.bs b o e).1 (I.ok.bs b o e).2 (I.ok.DF e) (I.ok.BL b o e),I.base.free b o (I.ok.bs b o e).1 (I.ok.bs b o e).2 (I.ok.BL b o e)⟩
def Inv.bk(I:Inv X pins σ H s):∀b o,X.base.get? b=some o->s.heap.get? b=some o:=fun b o e=>(I.bs b o e).1
theorem Inv.mod(I:Inv X pins σ H s):Mod X.K X.mg X.base:=I.ok.mod
def Inv.CT(I:Inv X pins σ H s):X.K.In s.heap:=I.ok.mod.DD.keeps I.bk
theorem Inv.lt(I:Inv X pins σ H s):X.env.locals < s.heap.objs.size:=let ⟨_,hn,_⟩:=I.loc;hn.lt
def Inv.sz(I:Inv X pins σ H s):X.s₀.heap.objs.size<=s.heap.objs.size:=F6 I.ok.above (Ia I.lt)
def Inv.C1(I:Inv X pins σ H s){a:Addr}(h:s.heap.objs.size<=a):a ∉ X.fs:=fun hb=>by
 obtain⟨_,o,ho,_⟩:=I.ok.AM.mem hb
 exact absurd (F1 (FU ho) (F6 I.sz h)) (G9 _)
def Inv.Cv(I:Inv X pins σ H s):∀x c,X.env.cells.lookup x=some c->c≠X.env.locals:=fun x c e z=>by
 obtain⟨v,o,ho,hd⟩:=I.cell x c e
 obtain⟨m,⟨o',es,ep,ho',hd',_⟩,_⟩:=I.loc
 rw[z,ho']at ho;cases ho;rw[hd']at hd;cases hd
theorem Inv.AM(I:Inv X pins σ H s):s.heap.FunFrames X.base X.outer:=by
 have all:∀(l:List Env),(∀b∈frs l,b∈X.fs)->X.s₀.heap.FunFrames X.base l->s.heap.FunFrames X.base l:=by
  intro l
  induction l with
  |nil=>intro _ _;trivial
  |cons env r ih=>
   intro hs hl
   obtain⟨hk,⟨L,o,hf,hn,ho,hd⟩,hr⟩:=hl
   have hL:L∈X.fs:=hs L (by unfold frs;rw[IK,hf];exact GR)
   obtain⟨sl,e⟩:=I.base.slot L o ho (I.ok.Cu L hL) hL fun z=>I.ok.BU L z hL
   exact⟨hk,⟨L,_,hf,hn,e,hd⟩,ih (fun b hb=>hs b (by unfold frs;rw[IK,hf];exact GX _ hb)) hr⟩
 exact all X.outer (fun _ hb=>hb) I.ok.AM
theorem Inv.stack(I:Inv X pins σ H s):s.heap.FunFrames X.base X.stack:=by
 rcases I.ok.stk with e|⟨e,hf⟩
 ·rw[e];exact I.AM
 ·rw[e]
  obtain⟨m,hn,_⟩:=I.loc
  refine .cons (by rw[I.ok.kind];decide) hf hn ?_ I.AM
  exact Heap.get?_none_of_le (F6 I.ok.B_ I.ok.above)
def Inv.AA(I:Inv X pins σ H s):∀b∈frs X.stack,b∈X.env.locals::X.fs:=fun b hb=>by
 rcases I.ok.stk with e|⟨e,hf⟩
 ·rw[e]at hb;exact GX _ hb
 ·rw[e]at hb
  unfold frs at hb
  rw[IK,hf]at hb
  exact hb
def Inv.BF(I:Inv X pins σ H s):∀b∈frs X.stack,H b=none:=fun b hb=>by
 rcases F2.mp (I.AA b hb)with e|hb
 ·rw[e];exact I.free
 ·obtain⟨_,o,ho,_⟩:=I.ok.AM.mem hb
  exact I.base.free b o ho (I.ok.Cu b hb) fun z=>I.ok.BU b z hb
def Inv.step{g':Array GenState}{t':Nat}{d':Drawn}{ch:List Addr}(I:Inv X pins σ H s)
  (hch:∀b∈ch,(b∈X.ex\/X.s₀.heap.objs.size<=b)/\b≠X.env.locals/\(∀x c,X.env.cells.lookup x=some c->c≠b)/\∀p∈X.pn++pins,p.1≠b)
  (keep:∀b o,b≠X.env.locals->b ∉ X.fs->b ∉ ch->s.heap.get? b=some o->H b=none->h'.get? b=some o)
  (slot:∀b o,b≠X.env.locals->b∈X.fs->b ∉ ch->s.heap.get? b=some o->H b=none->∃sl,h'.get? b=some { o with slots:=sl }) (free:∀b o,b ∉ ch->s.heap.get? b=some o->H b=none->H' b=none)
  (there:∀b o,b ∉ ch->s.heap.get? b=some o->∃o',h'.get? b=some o')
  (tups:∀b xs,H b=some (.tup xs)->H' b=some (.tup xs)) (Ba:∀b o u,H b=some (.frz o u)->H' b=some (.frz o u)) (Bp:∀b ps,H b=some (.Cr ps)->∃more,H' b=some (.Cr (ps++more)))
  (ns:∀m,s.heap.Ns X.env.locals m->h'.Ns X.env.locals m) (hok:z_ X.prog X.w H' h') (hg:AllBare g') :
  Inv X pins σ H' { s with heap:=h',gens:=g',drawn:=d',toks:=t' }:=by
 have Ev:∀b o,X.s₀.heap.get? b=some o->b≠X.env.locals:=fun b o e=>Ga (F1 (FU e) I.ok.above)
 have Do:∀b o,X.s₀.heap.get? b=some o->b ∉ X.ex->b ∉ ch:=fun b o e hx hb=>by
  rcases(hch b hb).1 with z|z
  ·exact hx z
  ·exact absurd (F1 (FU e) z) (G9 _)
 have cellK:∀x c,X.env.cells.lookup x=some c->∀v,s.heap.IsCell c v->h'.IsCell c v:=fun x c e v ⟨o,ho,hd⟩=>by
  have C2:c ∉ ch:=fun z=>(hch c z).2.2.1 x c e rfl
  by_cases hc:c∈X.fs
  ·obtain⟨sl,q⟩:=slot c o (I.Cv x c e) hc C2 ho (I.zR x c e)
   exact⟨_,q,hd⟩
  ·exact⟨o,keep c o (I.Cv x c e) hc C2 ho (I.zR x c e),hd⟩
 refine⟨I.ok,I.os,hg,⟨fun b o e n hb hx=>?_,fun b o e n hb hx=>?_,fun b o e n hx=>?_,fun b o e hx=>?_,fun b xs e=>tups b xs (I.base.tups b xs e),fun b o xs e=>Ba b o xs (I.base.Ba b o xs e),fun b ps e=>?_⟩,?_,fun x c e=>?_,?_,fun x c e=>?_,fun p hp=>?_,hok,I.len⟩
 ·exact keep b o (Ev b o e) hb (Do b o e hx) (I.base.keep b o e n hb hx) (I.base.free b o e n hx)
 ·obtain⟨sl,e1⟩:=I.base.slot b o e n hb hx
  obtain⟨sl',e2⟩:=slot b _ (Ev b o e) hb (Do b o e hx) e1 (I.base.free b o e n hx)
  exact⟨sl',e2⟩
 ·obtain⟨o',e1⟩:=I.base.there b o e hx
  exact free b o' (Do b o e hx) e1 (I.base.free b o e n hx)
 ·obtain⟨o',e1⟩:=I.base.there b o e hx
  exact there b o' (Do b o e hx) e1
 ·obtain⟨m1,e1⟩:=I.base.Bp b ps e
  obtain⟨m2,e2⟩:=Bp b _ e1
  exact⟨m1++m2,by rw[e2,Array.append_assoc]⟩
 ·obtain⟨m,hn,hl⟩:=I.loc
  refine⟨m,ns m hn,fun i x v e1 e2 e3=>?_⟩
  obtain⟨u,r,l⟩:=hl i x v e1 e2 e3
  refine⟨u,r,?_⟩
  rcases l with l|⟨k,c,e,z⟩
  ·exact .inl l
  ·exact .inr ⟨k,c,e,cellK x c e _ z⟩
 ·obtain⟨v,z⟩:=I.cell x c e
  exact⟨v,cellK x c e v z⟩
 ·obtain⟨m,⟨o,_,_,ho,_⟩,_⟩:=I.loc
  exact free _ o (fun z=>(hch _ z).2.1 rfl) ho I.free
 ·obtain⟨v,o,ho,hd⟩:=I.cell x c e
  exact free c o (fun z=>(hch c z).2.2.1 x c e rfl) ho (I.zR x c e)
 ·obtain⟨e,n,ne,nf,d⟩:=I.pin p hp
  have C2:p.1 ∉ ch:=fun z=>(hch p.1 z).2.2.2 p hp rfl
  exact⟨keep p.1 p.2 ne nf C2 e n,free p.1 p.2 C2 e n,ne,nf,d⟩
def Inv.un{t':Nat}(I:Inv X pins σ H s)(u:Un X.fs [] H H' s.heap h')(hok:z_ X.prog X.w H' h'):Inv X pins σ H' { s with heap:=h',toks:=t' }:=by
 obtain⟨m,⟨o,es,ep,ho,r⟩,_⟩:=id I.loc
 obtain⟨sl,hL⟩:=u.any ho I.free (by simp)
 exact I.step (g':=s.gens) (d':=s.drawn) (ch:=[]) (fun _ z=>nomatch z) (fun b o _ hb _ e n=>u.keep b o e n hb (by simp)) (fun b o _ hb _ e n=>u.slot b o e n hb (by simp)) (fun b o _ e n=>u.free b o e n (by simp)) (fun b o _ e=>u.there b o e (by simp)) u.tups u.Ba u.Bp (fun m' hm=>by
  obtain⟨o',es',DG,ho',r'⟩:=hm
  rw[ho]at ho';cases ho'
  exact⟨_,es',DG,hL,r'⟩) hok I.bare
def Inv.call{g':Array GenState}{t':Nat}{d':Drawn}{ch:List Addr}(I:Inv X pins σ H s)(u:Un (frs X.stack) ch H H' s.heap h')(hok:z_ X.prog X.w H' h')(hg:AllBare g')
  (hch:∀b∈ch,(b∈X.ex\/X.s₀.heap.objs.size<=b)/\b≠X.env.locals/\(∀x c,X.env.cells.lookup x=some c->c≠b)/\∀p∈X.pn++pins,p.1≠b) :
  Inv X pins σ H' { s with heap:=h',gens:=g',drawn:=d',toks:=t' }:=by
 obtain⟨m,⟨o,es,ep,ho,r⟩,_⟩:=id I.loc
 obtain⟨sl,hL⟩:=u.any ho I.free fun z=>(hch _ z).2.1 rfl
 exact I.step (ch:=ch) hch (fun b o hL hb hc e n=>u.keep b o e n (fun z=>(F2.mp (I.AA b z)).elim hL hb) hc) (fun b o _ _ hc e n=>u.any e n hc) (fun b o hc e n=>u.free b o e n hc) (fun b o hc e=>u.there b o e hc) u.tups u.Ba u.Bp (fun m' hm=>by
  obtain⟨o',es',DG,ho',r'⟩:=hm
  rw[ho]at ho';cases ho'
  exact⟨_,es',DG,hL,r'⟩) hok hg
def Inv.turned{t':Nat}{it:Addr}(I:Inv X pins σ H s)(k:∀b o,b≠it->s.heap.get? b=some o->h'.get? b=some o)(hn:H it=none)(hL:it≠X.env.locals)
  (h1:it∈X.ex\/X.s₀.heap.objs.size<=it) (h2:∀x c,X.env.cells.lookup x=some c->c≠it) (h3:∀p∈X.pn++pins,p.1≠it):Inv X pins σ H { s with heap:=h',toks:=t' }:=by
 have C3:∀b u,H b=some u->b≠it:=fun b u e z=>by rw[z,hn]at e;cases e
 refine I.step (g':=s.gens) (d':=s.drawn) (ch:=[it]) (fun b hb=>?_) (fun b o _ _ hc e _=>k b o (fun z=>hc (by simp[z])) e) (fun b o _ _ hc e _=>⟨o.slots,k b o (fun z=>hc (by simp[z])) e⟩) (fun _ _ _ _ n=>n)
  (fun b o hc e=>⟨o,k b o (fun z=>hc (by simp[z])) e⟩) (fun _ _ e=>e) (fun _ _ _ e=>e) (fun b ps e=>⟨#[],by rw[e];simp⟩) (fun m hm=>?_) (fun b u e=>?_) I.bare
 ·have e:b=it:=by simpa using hb
  subst e
  exact⟨h1,hL,h2,h3⟩
 ·obtain⟨o,es,ep,ho,r⟩:=hm
  exact⟨o,es,ep,k _ o (Ib hL) ho,r⟩
 ·refine(I.hok b u e).stay (fun c v hc q=>k c v ?_ q) (fun _ q=>q) fun _ _ q=>q
  rcases hc with z|z
  ·rw[z];exact C3 b u e
  ·exact C3 c _ z
def Inv.tok(I:Inv X pins σ H s)(t:Nat):Inv X pins σ H { s with toks:=t }:=I.un (h':=s.heap) (t':=t) Un.refl I.hok
theorem Inv.kept{t':Nat}(I:Inv X pins σ H s)(k:∀b u,s.heap.get? b=some u->h'.get? b=some u):Inv X pins σ H { s with heap:=h',toks:=t' }:=I.un (Un.kept k) (I.hok.kept k)
theorem Inv.laid{a:Addr}{o:HO}{t':Nat}(I:Inv X pins σ H s)(k:∀b u,s.heap.get? b=some u->h'.get? b=some u)(hp:s.heap.objs.size<=a)(new:yY X.prog X.w (upd H a o) h' a o) :
  Inv X pins σ (upd H a o) { s with heap:=h',toks:=t' }:=I.un (Un.laid k hp (I.hok.fresh hp)) (I.hok.laid k hp new)
theorem Inv.write{x e:Addr}{o:HO}{t':Nat}(I:Inv X pins σ H s)(mu:ve (H x))(he:e=x\/H e=some (.own x))(k:∀b u,b≠e->s.heap.get? b=some u->h'.get? b=some u)(CQ:∃u,h'.get? e=some u)
  (new:yY X.prog X.w (upd H x o) h' x o):Inv X pins σ (upd H x o) { s with heap:=h',toks:=t' }:=I.un (Un.write mu he k CQ) (I.hok.write mu he k CQ new)
def Inv.weak{σ':List (Option V)}(I:Inv X pins σ H s)(hl:σ'.length=σ.length)(w:∀(i:Nat) v,σ'[i]?=some (some v)->σ[i]?=some (some v)):Inv X pins σ' H s:=
 ⟨I.ok,I.os,I.bare,I.base,let ⟨m,hn,hl'⟩:=I.loc;⟨m,hn,fun i x v e1 e2 e3=>hl' i x v e1 (w i v e2) e3⟩,I.cell,I.free,I.zR,I.pin,I.hok,hl.trans I.len⟩
def Inv.AQ{Cm:Va}(I:Inv X pins σ H s)(h:∀p∈Cm,s.heap.get? p.1=some p.2/\H p.1=none/\p.1≠X.env.locals/\p.1 ∉ X.fs/\∀v,p.2.data ≠ .cell v):Inv X Cm σ H s:=
 ⟨I.ok,I.os,I.bare,I.base,I.loc,I.cell,I.free,I.zR,fun p hp=>(Gh.mp hp).elim (fun z=>I.pin p (Hq _ z)) (h p),I.hok,I.len⟩
def kF{N:Vs}(hN:N.Nodup){i j:Nat}{x:Str}(a:N[i]?=some x)(b:N[j]?=some x):i=j:=by
 obtain⟨h1,e1⟩:=Hi.mp a
 obtain⟨h2,e2⟩:=Hi.mp b
 exact(List.getElem_inj hN).mp (e1.trans e2.symm)
def jb {M : Model} {A : Around} {E : Value -> Shared -> Prop} {i : Nat} {x : Str} {v : V} {u : Value} {Q : Unit -> Shared -> Prop} (I : Inv X pins σ H s) (hN : X.N.Nodup) (hi : X.N[i]? = some x) (hx : sn X.env.scope x) (r : RelV v u)
  (h : ∀ s', Inv X pins (σ.set i (some v)) H s' -> (∃ a, Heap.SameBut a s.heap s'.heap /\ (a = X.env.locals \/ X.env.cells.lookup x = some a)) -> Q () s') (hf : X.fn x = true \/ X.env.scope.names.lookup x = some .local := by first | exact .inl rfl | exact .inr rfl | assumption) : wpAny M A (storeName X.env x u) Q E s := by
 obtain ⟨m, hn, hl⟩ := id I.loc
 have hcls : (X.env.scope.kind == .class || (X.env.scope.kind == .module && X.env.locals != X.env.globals)) = false := by rw [I.ok.kind]; rfl
 have Ew : i < σ.length := by rw [I.len]; exact (Hi.mp hi).1
 have Cv := I.Cv
 have tracked : ∀ {a : Addr} {h' : Heap}, (∃ o, s.heap.get? a = some o /\ H a = none) -> Heap.SameBut a s.heap h' -> z_ X.prog X.w H h' := fun {a h'} ha hs b ob e => by
  obtain ⟨_, _, hfree⟩ := ha
  refine (I.hok b ob e).stay (fun c w' hc q => (hs.2 c ?_).trans q) (fun _ q => q) fun _ _ q => q
  rintro rfl
  rcases hc with rfl | hc
  ·rw [hfree] at e; cases e
  ·rw [hfree] at hc; cases hc
 rcases hx with hk | hk
 ·refine wpAny_storeName_local hk hn (fun h' hn' hs => ?_) hcls
  obtain ⟨oL, _, _, E8, _⟩ := id hn
  refine h _ ⟨I.ok, I.os, I.bare, ⟨fun b o e n hb hx => ?_, fun b o e n hb hx => ?_, I.base.free, fun b o e hx => ?_, I.base.tups, I.base.Ba, I.base.Bp⟩, ⟨_, hn', fun j y v' e1 e2 e3 => ?_⟩, fun y c e => ?_, I.free, I.zR, fun p hp => ?_, tracked ⟨oL, E8, I.free⟩ hs, by simpa using I.len⟩ ⟨_, hs, .inl rfl⟩
  ·exact (hs.2 b (Ga (F1 (FU e) I.ok.above))).trans (I.base.keep b o e n hb hx)
  ·obtain ⟨sl, e1⟩ := I.base.slot b o e n hb hx
   exact ⟨sl, (hs.2 b (Ga (F1 (FU e) I.ok.above))).trans e1⟩
  ·obtain ⟨o', e1⟩ := I.base.there b o e hx
   exact ⟨o', (hs.2 b (Ga (F1 (FU e) I.ok.above))).trans e1⟩
  ·by_cases hj : j = i
   ·subst hj
    rw [hi] at e1; cases e1
    rw [List.getElem?_set_self Ew] at e2
    cases e2
    exact ⟨u, r, .inl ⟨hk, by simp⟩⟩
   ·rw [List.getElem?_set_ne (Ib hj)] at e2
    obtain ⟨u', r', q⟩ := hl j y v' e1 e2 e3
    refine ⟨u', r', ?_⟩
    rcases q with ⟨k, e⟩ | ⟨k, c, e, z⟩
    ·refine .inl ⟨k, ?_⟩
     have : y ≠ x := fun e => hj (kF hN e1 (e ▸ hi))
     simp [this, e]
    ·exact .inr ⟨k, c, e, z.sameBut hs (Cv y c e)⟩
  ·obtain ⟨w', z⟩ := I.cell y c e
   exact ⟨w', z.sameBut hs (Cv y c e)⟩
  ·obtain ⟨e, n, ne, nf, d⟩ := I.pin p hp
   exact ⟨(hs.2 p.1 ne).trans e, n, ne, nf, d⟩
 ·have hfn : X.fn x = true := by
   rcases hf with z | z
   ·exact z
   ·rw [z] at hk; cases hk
  obtain ⟨c, hc⟩ := I.ok.has x (.inl hk)
  obtain ⟨w', z⟩ := I.cell x c hc
  refine wpAny_storeName_cell I.ok.kind hk hc z (fun h' hc' hs => ?_)
  obtain ⟨oc, hoc, DH⟩ := id z
  refine h { s with heap := h' } ⟨I.ok, I.os, I.bare, ⟨fun b o e n hb hx => ?_, fun b o e n hb hx => ?_, I.base.free, fun b o e hx => ?_, I.base.tups, I.base.Ba, I.base.Bp⟩, ⟨m, hn.sameBut hs (Ib (Cv x c hc)), fun j y v' e1 e2 e3 => ?_⟩, fun y c' e => ?_, I.free, I.zR, fun p hp => ?_, tracked ⟨oc, hoc, I.zR x c hc⟩ hs, by simpa using I.len⟩ ⟨c, hs, .inr hc⟩
  ·exact (hs.2 b (Ga (F1 (FU e) (I.ok.CS x c hfn hc)))).trans (I.base.keep b o e n hb hx)
  ·obtain ⟨sl, e1⟩ := I.base.slot b o e n hb hx
   exact ⟨sl, (hs.2 b (Ga (F1 (FU e) (I.ok.CS x c hfn hc)))).trans e1⟩
  ·obtain ⟨o', e1⟩ := I.base.there b o e hx
   exact ⟨o', (hs.2 b (Ga (F1 (FU e) (I.ok.CS x c hfn hc)))).trans e1⟩
  ·by_cases hj : j = i
   ·subst hj
    rw [hi] at e1; cases e1
    rw [List.getElem?_set_self Ew] at e2
    cases e2
    exact ⟨u, r, .inr ⟨.inl hk, c, hc, hc'⟩⟩
   ·rw [List.getElem?_set_ne (Ib hj)] at e2
    obtain ⟨u', r', q⟩ := hl j y v' e1 e2 e3
    refine ⟨u', r', ?_⟩
    rcases q with q | ⟨k, c', e, z'⟩
    ·exact .inl q
    ·refine .inr ⟨k, c', e, z'.sameBut hs ?_⟩
     rintro rfl
     exact hj (kF hN e1 (I.ok.inj _ _ _ e hc ▸ hi))
  ·by_cases hcc : c' = c
   ·subst hcc; exact ⟨_, hc'⟩
   ·obtain ⟨w2, z2⟩ := I.cell y c' e
    exact ⟨w2, z2.sameBut hs hcc⟩
  ·obtain ⟨e, n, ne, nf, d⟩ := I.pin p hp
   refine ⟨(hs.2 p.1 ?_).trans e, n, ne, nf, d⟩
   intro q
   rw [q, hoc] at e
   have q' : oc = p.2 := GH e
   exact d w' (by rw [<- q']; exact DH)
def cn{M:Model}{A:Around}{E:Vq}{i:Nat}{x:Str}{v:V}{u:Value}{Q:Unit->Shared->Prop}(I:Inv X pins σ H s)(hN:X.N.Nodup)(hi:X.N[i]?=some x)(hx:sn X.env.scope x)(r:RelV v u)
  (h:∀s',Inv X pins (σ.set i (some v)) H s'->Q () s') (hf:X.fn x=true\/X.env.scope.names.lookup x=some .local:=by first|exact .inl rfl|exact .inr rfl|assumption):wpAny M A (storeName X.env x u) Q E s:=
 jb I hN hi hx r (fun s' I' _=>h s' I') hf
def Inv.C4{s':Shared}{ch:List Addr}(I:Inv X pins σ H s)(ho:s'.os=s.os)(u:Un (frs X.stack) ch H H' s.heap s'.heap)(hok:z_ X.prog X.w H' s'.heap)(hg:AllBare s'.gens)
  (hch:∀b∈ch,(b∈X.ex\/X.s₀.heap.objs.size<=b)/\b≠X.env.locals/\(∀x c,X.env.cells.lookup x=some c->c≠b)/\∀p∈X.pn++pins,p.1≠b):Inv X pins σ H' s':=by
 obtain⟨h',g',d',t',o'⟩:=s'
 have e:o'=s.os:=ho
 subst e
 exact I.call (g':=g') (t':=t') (d':=d') u hok hg hch
end
abbrev XK:=Value->Option Addr->Hp->Prop
abbrev St:=List (Option V)
abbrev VK:=V->Hp->Prop
abbrev TE:=St->Hp->VK->Prop
abbrev TT:=St->Hp->(Bool->Hp->Prop)->Prop
abbrev TA:=St->Hp->(List V->Hp->Prop)->Prop
structure lr where
 nx:St->Hp->Prop
 rt:VK
 bk:St->Hp->Prop:=fun _ _=>False
 ct:St->Hp->Prop:=fun _ _=>False
abbrev TS:=lr->St->Hp->Prop
def EP(X:Cx)(pins:Va)(σ:St)(Q:VK)(u:Value)(s':Shared):Prop:=∃v H',Inv X pins σ H' s'/\RelV v u/\Q v H'
def TP(X:Cx)(pins:Va)(σ:St)(Q:Bool->Hp->Prop)(b:Bool)(s':Shared):Prop:=∃H',Inv X pins σ H' s'/\Q b H'
def AP(X:Cx)(pins:Va)(σ:St)(Q:List V->Hp->Prop)(us:Vv)(s':Shared):Prop:=∃vs H',Inv X pins σ H' s'/\Vals vs us/\Q vs H'
def SP(X:Cx)(pins:Va)(D:lr)(f:Flow)(s':Shared):Prop:=
 match f with
 | .next=>∃σ' H',Inv X pins σ' H' s'/\D.nx σ' H'
 | .brk=>∃σ' H',Inv X pins σ' H' s'/\D.bk σ' H'
 | .cont=>∃σ' H',Inv X pins σ' H' s'/\D.ct σ' H'
 | .ret u=>∃v σ' H',Inv X pins σ' H' s'/\RelV v u/\D.rt v H'
def PE(X:Cx)(e:Expr)(t:TE):Prop:=
 ∀(pins:Va) (s:Shared) (σ:St) (H:Hp) (Q:VK),Inv X pins σ H s->t σ H Q->wpAny (model X.prog X.w) X.A (eval e X.env) (EP X pins σ Q) X.xe s
def PT(X:Cx)(e:Expr)(t:TT):Prop:=
 ∀(pins:Va) (s:Shared) (σ:St) (H:Hp) (Q:Bool->Hp->Prop),Inv X pins σ H s->t σ H Q->wpAny (model X.prog X.w) X.A (isTrue e X.env (eval e X.env)) (TP X pins σ Q) X.xe s
def PW(X:Cx)(e:Expr)(t:TT):Prop:=
 ∀(whole:Sem Value) (pins:Va) (s:Shared) (σ:St) (H:Hp) (Q:Bool->Hp->Prop),Inv X pins σ H s->t σ H Q->wpAny (model X.prog X.w) X.A (isTrue e X.env whole) (TP X pins σ Q) X.xe s
def PW.pt{X:Cx}{e:Expr}{t:TT}(h:PW X e t):PT X e t:=h _
def PA(X:Cx)(es:List Expr)(t:TA):Prop:=
 ∀(pos:Pos) (pins:Va) (s:Shared) (σ:St) (H:Hp) (Q:List V->Hp->Prop),Inv X pins σ H s->t σ H Q->wpAny (model X.prog X.w) X.A (spliced (backTo pos (starEach es X.env))) (AP X pins σ Q) X.xe s
def PS(X:Cx)(st:Stmt)(t:TS):Prop:=
 ∀(pins:Va) (s:Shared) (σ:St) (H:Hp) (D:lr),Inv X pins σ H s->t D σ H->wpAny (model X.prog X.w) X.A (exec st X.env) (SP X pins D) X.xe s
def Bw(X:Cx)(st:List Stmt)(t:TS):Prop:=
 ∀(pins:Va) (s:Shared) (σ:St) (H:Hp) (D:lr),Inv X pins σ H s->t D σ H->wpAny (model X.prog X.w) X.A (execs st X.env) (SP X pins D) X.xe s
def yK{α:Type}{t:Sem α}{Q Q':α->Shared->Prop}{M:Model}{A:Around}{E:Vq}{s:Shared}(h:wpAny M A t Q E s)(hQ:∀a s,Q a s->Q' a s):wpAny M A t Q' E s:=Hv h hQ fun _ _ x=>x
section
variable {X:Cx}
def wU(i:Nat):TE:=fun σ H Q=>∃v,σ[i]?=some (some v)/\Q v H
def tC(v:V):TE:=fun _ H Q=>Q v H
def sR{i:Nat}{x:Str}{pos:Pos}(hN:X.N[i]?=some x)(hv:wF X.env.scope x)(hd:(x == ("__debug__":Str))=false:=by decide)(hcd:(x == ("__classdict__":Str))=false:=by decide):PE X (.Name x pos) (wU i):=by
 intro pins s σ H Q I h
 obtain⟨v,e,h⟩:=h
 obtain⟨m,hn,hl⟩:=I.loc
 obtain⟨u,r,l⟩:=hl i x v hN e hv
 have fin:EP X pins σ Q u s:=⟨v,H,I,r,h⟩
 rcases l with⟨hk,hm⟩|⟨hk,c,hc,hcell⟩
 ·exact wpAny_Name (wpAny_loadName_local I.ok.kind hk hn hm fin) hd
 ·rcases hk with hk|hk
  ·exact wpAny_Name (wpAny_loadName_cell I.ok.kind hk hc hcell fin) hd
  ·exact wpAny_Name (wpAny_loadName_free I.ok.kind hk hc hcell fin hcd) hd
def sS{i j pos}:PE X (.Constant (.int i) j pos) (tC (.int i)):=fun _ _ _ H _ I h=>wpAny_Constant_int ⟨.int i,H,I.tok _,⟨_,rfl⟩,h⟩
def vf{b j pos}:PE X (.Constant (.bool b) j pos) (tC (.bl b)):=fun _ _ _ H _ I h=>Constant_bool ⟨.bl b,H,I,rfl,h⟩
def sT{x j pos}:PE X (.Constant (.str x) j pos) (tC (.str x)):=fun _ _ _ H _ I h=>Calls.Constant_str ⟨.str x,H,I.tok _,⟨_,rfl⟩,h⟩
def Gl(X:Cx)(x:Str):Prop:=X.env.kindOf x=some .globalImplicit
def qC{E:Vq}{pins:Va}{s:Shared}{σ:St}{H:Hp}{x:Str}{u:Value}{pos:Pos}{Q:Vq}(I:Inv X pins σ H s)(hg:Gl X x)(hm:X.mg x=some u)(h:Q u s)
  (hd:(x == ("__debug__":Str))=false:=by decide):wpAny (model X.prog X.w) X.A (eval (.Name x pos) X.env) Q E s:=
 Calls.Name_function_global I.ok.kind hg (Calls.loadGlobal_global (by rw[I.ok.glob];exact I.mod.glob.keeps I.bk) hm h) hd
def fg{E:Vq}{pins:Va}{s:Shared}{σ:St}{H:Hp}{x:Str}{u:Value}{pos:Pos}{Q:Vq}(I:Inv X pins σ H s)(hg:Gl X x)(hm:X.mg x=none)(hv:bootBuiltins x=some u)(h:Q u s)
  (hn:x ≠ "__name__":=by decide) (hd:(x == ("__debug__":Str))=false:=by decide):wpAny (model X.prog X.w) X.A (eval (.Name x pos) X.env) Q E s:=by
 obtain⟨mb,h1,h2⟩:=I.mod.blt
 exact Calls.Name_function_global I.ok.kind hg (Calls.loadGlobal_builtin (by rw[I.ok.glob];exact I.mod.glob.keeps I.bk) hm (by rw[I.ok.blt];exact h1.keeps I.bk) ((h2 x hn).trans hv) h) hd
variable {a b:Expr} {ta tb:TE} {pos:Pos}
def tB(t:TE):TT:=fun σ H Q=>t σ H fun x H1=>∃c,x = .bl c/\Q c H1
def sU{e:Expr}{t:TE}(h:PE X e t)(he:∀whole,isTrue e X.env whole=(do let v <-whole;standAt e.pos;holding [v] (truthy v)):=by intro _;rfl):PT X e (tB t):=by
 intro pins s σ H Q I hw
 refine isTrue_plain (yK (h pins s σ H _ I hw) fun v s1 ⟨x,H1,I1,r1,q1⟩=>?_) (he _)
 obtain⟨d,rfl,q⟩:=q1
 cases r1
 exact wpAny_truthy_bool ⟨H1,I1,q⟩
variable {tA Dp:TT} {rest:List Expr}
def wV(t u:TT):TT:=fun σ H Q=>t σ H fun c H1=>if c=true then u σ H1 Q else Q false H1
def yh(t u:TT):TT:=fun σ H Q=>t σ H fun c H1=>if c=true then Q true H1 else u σ H1 Q
def wW(t:TT):TT:=fun σ H Q=>t σ H fun c H1=>Q (!c) H1
def qD(ha:PT X a tA):PW X (.BoolOp .And [a] pos) tA:=by
 intro wh pins s σ H Q I h
 refine isTrue_and (yK (ha pins s σ H Q I h) fun c s1 e=>?_)
 cases c with
 |true=>exact isTrue_and_nil e
 |false=>exact e
def sV(ha:PT X a tA):PW X (.BoolOp .Or [a] pos) tA:=by
 intro wh pins s σ H Q I h
 refine isTrue_or (yK (ha pins s σ H Q I h) fun c s1 e=>?_)
 cases c with
 |false=>exact isTrue_or_nil e
 |true=>exact e
def sW(ha:PT X a tA)(hb:PW X (.BoolOp .And (b::rest) pos) Dp):PW X (.BoolOp .And (a::b::rest) pos) (wV tA Dp):=by
 intro wh pins s σ H Q I h
 refine isTrue_and (yK (ha pins s σ H _ I h) fun c s1 ⟨H1,I1,q1⟩=>?_)
 cases c with
 |true=>exact hb wh pins s1 σ H1 Q I1 q1
 |false=>exact⟨H1,I1,q1⟩
def vg(ha:PT X a tA)(hb:PW X (.BoolOp .Or (b::rest) pos) Dp):PW X (.BoolOp .Or (a::b::rest) pos) (yh tA Dp):=by
 intro wh pins s σ H Q I h
 refine isTrue_or (yK (ha pins s σ H _ I h) fun c s1 ⟨H1,I1,q1⟩=>?_)
 cases c with
 |true=>exact⟨H1,I1,q1⟩
 |false=>exact hb wh pins s1 σ H1 Q I1 q1
def sX(ha:PT X a tA):PT X (.UnaryOp .Not a pos) (wW tA):=by
 intro pins s σ H Q I h
 exact isTrue_not (ha pins s σ H (fun c H1=>Q (!c) H1) I h)
def yi(t:TT)(ta tb:TE):TE:=fun σ H Q=>t σ H fun c H1=>if c=true then ta σ H1 Q else tb σ H1 Q
def nV{c:Expr}(hc:PT X c tA)(ha:PE X a ta)(hb:PE X b tb):PE X (.IfExp c a b pos) (yi tA ta tb):=by
 intro pins s σ H Q I h
 refine wpAny_IfExp (yK (hc pins s σ H _ I h) fun d s1 ⟨H1,I1,q1⟩=>?_)
 cases d with
 |true=>exact ha pins s1 σ H1 Q I1 q1
 |false=>exact hb pins s1 σ H1 Q I1 q1
end
def SqL(K:Vo)(H:Hp)(a:Addr)(xs:List V):Prop:=
 Rd H a (.lst xs) \/
  ∃(o:Obj) (its:Vw) (n:Nat),K.lookup a=some o/\o.cls = .type "list"/\o.dict=none/\o.data = .seq its n/\its.size<=sizeLine/\Vals xs its.toList
def SqT(K:Vo)(H:Hp)(a:Addr)(xs:List V):Prop:=
 Rd H a (.tup xs) \/
  ∃(o:Obj) (its:Vw) (n:Nat),K.lookup a=some o/\o.cls = .type "tuple"/\o.dict=none/\o.data = .seq its n/\its.size<=sizeLine/\Vals xs its.toList
noncomputable def wX:Value->Option V
 | .none=>some .non
 | .bool b=>some (.bl b)
 | .int i _=>some (.int i)
 | .str x _=>some (.str x)
 | .bytes b _=>some (.BS b)
 | .float b _=>some (.DA b)
 | .ref a=>some (.ref a)
 | .type n=>some (.ty n)
 |_=>none
def RelV.abs{x:V}{u:Value}(r:RelV x u):wX u=some x:=by
 cases x with
 |non=>cases r;rfl
 |bl _=>cases r;rfl
 |int _=>obtain⟨t,rfl⟩:=r;rfl
 |str _=>obtain⟨t,rfl⟩:=r;rfl
 |BS _=>obtain⟨t,rfl⟩:=r;rfl
 |DA _=>obtain⟨t,rfl⟩:=r;rfl
 |ref _=>cases r;rfl
 |ty _=>cases r;rfl
theorem RelV.inj{x y:V}{u:Value}(r:RelV x u)(q:RelV y u):x=y:=GH (r.abs.symm.trans q.abs)
theorem Vals.inj:∀{xs ys:List V} {us:Vv},Vals xs us->Vals ys us->xs=ys
 |_,_,_,.nil,.nil=>rfl
 |_,_,_,.cons r t,.cons r' t'=>by rw[r.inj r',Vals.inj t t']
section
variable {X:Cx} {pins:Va} {σ:St} {H:Hp} {s:Shared} {a:Addr} {xs ys:List V}
def SqL.of{K:Vo}(h:H a=some (.lst xs)):SqL K H a xs:=.inl (.inl h)
def SqT.of{K:Vo}(h:H a=some (.tup xs)):SqT K H a xs:=.inl (.inl h)
def Inv.list(I:Inv X pins σ H s)(h:SqL X.K H a xs):∃its:List Value,Vals xs its/\PlainL s.heap a its.toArray/\xs.length<=sizeLine:=by
 rcases h with h|⟨o,its,n,hk,hc,hd,hs,hz,r⟩
 ·obtain⟨z,its,n,r,e⟩:=h.ok I.hok
  exact⟨its,r,⟨_,n,e,rfl,rfl,rfl⟩,z⟩
 ·refine⟨its.toList,r,⟨o,n,I.CT a o hk,hc,hd,by simpa using hs⟩,?_⟩
  have e:=r.length
  simp only[Array.length_toList]at e
  omega
def Inv.tuple(I:Inv X pins σ H s)(h:SqT X.K H a xs):∃its:List Value,Vals xs its/\IsTup s.heap a its.toArray/\xs.length<=sizeLine:=by
 rcases h with h|⟨o,its,n,hk,hc,_,hs,hz,r⟩
 ·obtain⟨z,its,r,p⟩:=h.ok I.hok
  exact⟨its,r,p.tup,z⟩
 ·refine⟨its.toList,r,⟨o,I.CT a o hk,hc,n,by simpa using hs⟩,?_⟩
  have e:=r.length
  simp only[Array.length_toList]at e
  omega
def Inv.Bq(I:Inv X pins σ H s)(h:SqL X.K H a xs)(h':SqL X.K H a ys):xs=ys:=by
 obtain⟨its,r,⟨o,n,e,_,_,d⟩,_⟩:=I.list h
 obtain⟨its',r',⟨o',n',e',_,_,d'⟩,_⟩:=I.list h'
 rw[e]at e';cases e'
 rw[d]at d'
 injection d' with d1 _
 have:its=its':=by simpa using Gy Array.toList d1
 subst this
 exact r.inj r'
def Inv.A8(I:Inv X pins σ H s)(h:SqT X.K H a xs)(h':SqT X.K H a ys):xs=ys:=by
 obtain⟨its,r,⟨o,e,_,n,d⟩,_⟩:=I.tuple h
 obtain⟨its',r',⟨o',e',_,n',d'⟩,_⟩:=I.tuple h'
 rw[e]at e';cases e'
 rw[d]at d'
 injection d' with d1 _
 have:its=its':=by simpa using Gy Array.toList d1
 subst this
 exact r.inj r'
end
noncomputable abbrev Cx.wish(X:Cx)(E:Vq):Cx:={ X with xe:=E }
noncomputable abbrev Cx.C5(X:Cx):Cx:=X.wish fun _ _=>False
theorem Cx.Ok.wish{X:Cx}(ok:X.Ok)(E:Vq):(X.wish E).Ok:=
 ⟨ok.mod,ok.kind,ok.glob,ok.blt,ok.above,ok.inj,ok.has,ok.CS,ok.hd,ok.frames,ok.stk,ok.DE,ok.bs,ok.B_,ok.BL,ok.BU,ok.AM,ok.Cu⟩
def Cx.Ok.zS{X:Cx}{E:Vq}(ok:(X.wish E).Ok):X.Ok:=
 ⟨ok.mod,ok.kind,ok.glob,ok.blt,ok.above,ok.inj,ok.has,ok.CS,ok.hd,ok.frames,ok.stk,ok.DE,ok.bs,ok.B_,ok.BL,ok.BU,ok.AM,ok.Cu⟩
section
variable {X:Cx} {pins:Va} {σ:St} {H:Hp} {s:Shared} {E:Vq}
theorem Inv.wish(I:Inv X pins σ H s)(E:Vq):Inv (X.wish E) pins σ H s:=⟨I.ok.wish E,I.os,I.bare,I.base,I.loc,I.cell,I.free,I.zR,I.pin,I.hok,I.len⟩
theorem Inv.zS(I:Inv (X.wish E) pins σ H s):Inv X pins σ H s:=⟨I.ok.zS,I.os,I.bare,I.base,I.loc,I.cell,I.free,I.zR,I.pin,I.hok,I.len⟩
theorem SP.zS{D:lr}{f:Flow}{s':Shared}(h:SP (X.wish E) pins D f s'):SP X pins D f s':=by
 cases f with
 |next=>obtain⟨σ',H',I,q⟩:=h;exact⟨σ',H',I.zS,q⟩
 |brk=>obtain⟨σ',H',I,q⟩:=h;exact⟨σ',H',I.zS,q⟩
 |cont=>obtain⟨σ',H',I,q⟩:=h;exact⟨σ',H',I.zS,q⟩
 |ret u=>obtain⟨v,σ',H',I,r,q⟩:=h;exact⟨v,σ',H',I.zS,r,q⟩
theorem Bw.C5{st:List Stmt}{t:TS}(h:Bw X.C5 st t):Bw X st t:=fun pins s σ H D I hw=>
 Hv (h pins s σ H D (I.wish _) hw) (fun _ _ q=>q.zS) fun _ _ z=>False.elim z
end
section
variable {X:Cx} {st:Stmt} {rest:List Stmt} {t u:TS} {e:Expr} {te:TE} {pos:Pos}
def vh:TS:=fun D σ H=>D.nx σ H
def wY(t u:TS):TS:=fun D σ H=>t { D with nx:=u D } σ H
def qE:Bw X [] vh:=fun _ _ σ H _ I h=>ID ⟨σ,H,I,h⟩
def nW(h1:PS X st t)(h2:Bw X rest u):Bw X (st::rest) (wY t u):=by
 intro pins s σ H D I h
 refine wpAny_execs_cons (yK (h1 pins s σ H { D with nx:=u D } I h) fun f s1 q=>?_)
 cases f with
 |next=>
  obtain⟨σ',H',I',q⟩:=q
  exact h2 pins s1 σ' H' D I' q
 |ret v=>exact q
 |brk=>exact q
 |cont=>exact q
def qF(h1:PS X st t):Bw X [st] t:=by
 intro pins s σ H D I h
 refine wpAny_execs_cons (yK (h1 pins s σ H D I h) fun f s1 q=>?_)
 cases f with
 |next=>exact ID q
 |ret v=>exact q
 |brk=>exact q
 |cont=>exact q
def Inv.quiet{pins:Va}{σ:St}{H:Hp}{s:Shared}(I:Inv X pins σ H s):interactive X.env=false:=by simp[interactive,I.ok.kind]
def vi(te:TE):TS:=fun D σ H=>te σ H fun _ H1=>D.nx σ H1
def qG(he:PE X e te)(hs:swapsWith e none pos.line X.env=pure false:=by rfl):PS X (.Expr e pos) (vi te):=by
 intro pins s σ H D I h
 exact wpAny_Expr_any (yK (he pins s σ H _ I h) fun v s1 ⟨x,H1,I1,r1,q1⟩=>⟨σ,H1,I1,q1⟩) I.quiet hs
def wZ(te:TE):TS:=fun D σ H=>te σ H D.rt
def sY(he:PE X e te):PS X (.Return (some e) pos) (wZ te):=by
 intro pins s σ H D I h
 exact wpAny_Return_some (yK (he pins s σ H _ I h) fun v s1 ⟨x,H1,I1,r1,q1⟩=>⟨x,σ,H1,I1,r1,q1⟩)
def w4(c:TT)(t u:TS):TS:=fun D σ H=>c σ H fun b H1=>if b=true then t D σ H1 else u D σ H1
def vj{c:Expr}{a b:List Stmt}{tc:TT}(hc:PT X c tc)(ha:Bw X a t)(hb:Bw X b u):PS X (.If c a b pos) (w4 tc t u):=by
 intro pins s σ H D I h
 refine wpAny_If (yK (hc pins s σ H _ I h) fun d s1 ⟨H1,I1,q1⟩=>?_)
 cases d with
 |true=>exact ha pins s1 σ H1 D I1 q1
 |false=>exact hb pins s1 σ H1 D I1 q1
end
abbrev TG:=V->St->Hp->(St->Hp->Prop)->Prop
abbrev sr:=List V->St->Hp->(St->Hp->Prop)->Prop
def PG(X:Cx)(target:Expr)(t:TG):Prop:=
 ∀(pins:Va) (s:Shared) (σ:St) (H:Hp) (v:V) (u:Value) (Q:St->Hp->Prop),Inv X pins σ H s->RelV v u->t v σ H Q->
  wpAny (model X.prog X.w) X.A (assign target X.env u) (fun _ s'=>∃σ' H',Inv X pins σ' H' s'/\Q σ' H') X.xe s
def vk(X:Cx)(ts:List Expr)(t:sr):Prop:=
 ∀(pins:Va) (s:Shared) (σ:St) (H:Hp) (vs:List V) (us:Vv) (Q:St->Hp->Prop),Inv X pins σ H s->Vals vs us->t vs σ H Q->
  wpAny (model X.prog X.w) X.A (assignInOrder ((assignEach ts X.env).map (·.2)) us) (fun _ s'=>∃σ' H',Inv X pins σ' H' s'/\Q σ' H') X.xe s
abbrev sZ:=V->V->V->Hp->(Hp->Prop)->Prop
def qH(X:Cx)(t:sZ):Prop:=
 ∀(pins:Va) (s:Shared) (σ:St) (H:Hp) (o i v:V) (ov iv u:Value) (Q:Hp->Prop),Inv X pins σ H s->RelV o ov->RelV i iv->RelV v u->t o i v H Q->
  wpAny (model X.prog X.w) X.A (setItem ov iv u) (fun _ s'=>∃H',Inv X pins σ H' s'/\Q H') X.xe s
section
variable {X:Cx} {pos:Pos}
def kG(i:Nat):TG:=fun v σ H Q=>Q (σ.set i (some v)) H
def qI{i:Nat}{x:Str}(hN:X.N.Nodup)(hi:X.N[i]?=some x)(hx:sn X.env.scope x)(hf:X.fn x=true\/X.env.scope.names.lookup x=some .local:=by first|exact .inl rfl|exact .inr rfl|assumption):PG X (.Name x pos) (kG i):=by
 intro pins s σ H v u Q I r h
 exact wpAny_assign_Name (cn I hN hi hx r (fun s' I'=>⟨_,H,I',h⟩) hf)
noncomputable def vm:sr:=fun vs σ H Q=>vs=[]/\Q σ H
noncomputable def ss(t:TG)(u:sr):sr:=fun vs σ H Q=>∃v r,vs=v::r/\t v σ H fun σ' H'=>u r σ' H' Q
def qJ:vk X [] vm:=by
 intro pins s σ H vs us Q I r h
 obtain⟨e,h⟩:=h
 subst e
 cases r
 exact assignInOrder_nil ⟨σ,H,I,h⟩
def nX{e:Expr}{es:List Expr}{t:TG}{u:sr}(h1:PG X e t)(h2:vk X es u)
  (hs:(assignEach (e::es) X.env).map (·.2)=assign e X.env::(assignEach es X.env).map (·.2):=by rfl):vk X (e::es) (ss t u):=by
 intro pins s σ H vs us Q I r h
 obtain⟨v,vr,e1,h⟩:=h
 subst e1
 cases r with
 |cons r rr=>
  rw[hs]
  refine Hf (yK (h1 pins s σ H _ _ _ I r h) fun _ s1 ⟨σ1,H1,I1,q1⟩=>?_)
  exact h2 pins s1 σ1 H1 _ _ Q I1 rr q1
def vn(K:Vo)(n:Nat)(t:sr):TG:=fun v σ H Q=>∃a xs,v = .ref a/\SqT K H a xs/\xs.length=n/\t xs σ H Q
def s9{es:List Expr}{k:Nat}{t:sr}{n:Nat}(hc:X.calm=true)(h:vk X es t)
  (hn:(assignEach es X.env).length=n:=by rfl) (hst:(assignEach es X.env).findIdx? (·.1)=none:=by rfl):PG X (.Tuple es k pos) (vn X.K n t):=by
 intro pins s σ H v u Q I r hw
 obtain⟨a,xs,e1,hq,hl,hw⟩:=hw
 subst e1
 cases r
 obtain⟨its,rv,ht,hz⟩:=I.tuple hq
 refine assign_Tuple_tuple (I.ok.hd hc) ht (by simp[hn,<-hl,rv.length]) hst fun h' hx=>?_
 have I1:Inv X pins σ H { s with heap:=h' }:=I.kept (t':=s.toks) fun b o e=>hx b o (Ga (FU e)) e
 exact h pins _ σ H xs _ Q I1 (by simpa using rv) hw
def w5(to ti:TE)(t:sZ):TG:=fun v σ H Q=>to σ H fun o H1=>ti σ H1 fun i H2=>t o i v H2 fun H3=>Q σ H3
def s_{o i:Expr}{to ti:TE}{t:sZ}(ho:PE X o to)(hi:PE X i ti)(hs:qH X t)
  (ha:∀v,assign (.Subscript o i pos) X.env v=(do
   let ov <-holding [v] (eval o X.env)
   let iv <-holding [v,ov] (eval i X.env)
   standAt pos
   holding [v,ov,iv] (setItem ov iv v)
   release [v,ov,iv] []):=by intro _;rfl):PG X (.Subscript o i pos) (w5 to ti t):=by
 intro pins s σ H v u Q I r h
 rw[ha]
 refine FO (HL (yK (ho pins s σ H _ I h) fun ov s1 ⟨x,H1,I1,r1,q1⟩=>?_))
 refine FO (HL (yK (hi pins s1 σ H1 _ I1 q1) fun iv s2 ⟨y,H2,I2,r2,q2⟩=>?_))
 refine FO (wpAny_standAt (FO (HL (yK (hs pins s2 σ H2 x y v ov iv u _ I2 r1 r2 r q2) fun _ s3 ⟨H3,I3,q3⟩=>?_))))
 exact wpAny_release ⟨σ,H3,I3,q3⟩
def qK(te:TE)(g:TG):TS:=fun D σ H=>te σ H fun x H1=>g x σ H1 D.nx
def nY{tg e:Expr}{te:TE}{g:TG}(he:PE X e te)(hg:PG X tg g)(hs:swapsWithSole [tg] e pos.line X.env=pure false:=by rfl)(hw:swappedStores [tg] e X.env=pure none:=by rfl)
  (h1:(assignEach [tg] X.env).map (·.2)=[assign tg X.env]:=by rfl):PS X (.Assign [tg] e pos) (qK te g):=by
 intro pins s σ H D I h
 refine wpAny_Assign_stores (yK (he pins s σ H _ I h) fun v s1 ⟨x,H1,I1,r1,q1⟩=>?_) hs hw
 rw[h1]
 exact yK (hg pins s1 σ H1 x v _ I1 r1 q1) fun _ s2 q=>q
def tj{i:Nat}{x:Str}{e:Expr}{te:TE}{pos':Pos}(hN:X.N.Nodup)(hi:X.N[i]?=some x)(hx:sn X.env.scope x)(he:PE X e te)(hs:swapsWith e (some (.Name x pos')) pos.line X.env=pure false:=by rfl)(hf:X.fn x=true\/X.env.scope.names.lookup x=some .local:=by first|exact .inl rfl|exact .inr rfl|assumption) :
  PS X (.Assign [.Name x pos'] e pos) (qK te (kG i)):=by
 intro pins s σ H D I h
 refine wpAny_Assign_Name (yK (he pins s σ H _ I h) fun v s1 ⟨y,H1,I1,r1,q1⟩=>?_) hs
 exact cn I1 hN hi hx r1 (fun s2 I2=>⟨_,H1,I2,q1⟩) hf
def w9(i j:Nat)(ta:TA):TS:=fun D σ H=>ta σ H fun vs H1=>∃v w,vs=[v,w]/\D.nx ((σ.set i (some v)).set j (some w)) H1
def tm{i j:Nat}{x y:Str}{a b:Expr}{ta:TA}{px py pt:Pos}{kt k2 Cw}(hc:X.calm=true)(hN:X.N.Nodup)(hi:X.N[i]?=some x)(hj:X.N[j]?=some y)(hij:i≠j)
  (hx:X.env.scope.names.lookup x=some .local) (hy:X.env.scope.names.lookup y=some .local) (ha:PA X [a,b] ta)
  (hw:swappedStores [.Tuple [.Name x px,.Name y py] kt pt] (.Tuple [a,b] k2 Cw) X.env=pure (some [x,y]))
  (hs:swapsWithSole [.Tuple [.Name x px,.Name y py] kt pt] (.Tuple [a,b] k2 Cw) pos.line X.env=pure false:=by rfl) :
  PS X (.Assign [.Tuple [.Name x px,.Name y py] kt pt] (.Tuple [a,b] k2 Cw) pos) (w9 i j ta):=by
 intro pins s σ H D I h
 rw[exec_Assign_arm]
 refine FO (wpAny_standAt ?_)
 rw[hs]
 refine FO (FW ?_)
 rw[if_neg (by decide)]
 refine FO (Tuple_ (yK (ha _ pins s σ H _ I h) fun us s1 ⟨vs,H1,I1,r1,q1⟩=>?_))
 obtain⟨v,w,e1,q1⟩:=q1
 subst e1
 obtain⟨u1,u2,rfl,rv,rw'⟩:∃u1 u2,us=[u1,u2]/\RelV v u1/\RelV w u2:=by
  cases r1 with
  |cons p q=>
   cases q with
   |cons p' q'=>
    cases q'
    exact⟨_,_,rfl,p,p'⟩
 refine GL ?_ (by show 2<=sizeLine;decide)
 have I2:Inv X pins σ H1 { s1 with heap:=s1.heap.push { cls:=.type "tuple",data:=.seq [u1,u2].toArray } }:=I1.kept (t':=s1.toks) fun b o e=>FP _ e
 rw[hw]
 refine FO (FW ?_)
 show wpAny (model X.prog X.w) X.A (do rule "assign.swapped-stores"; let items <-unpackItems (.ref s1.heap.objs.size) 2 none;assignInOrder [fun v=>bindName X.env y v,fun v=>bindName X.env x v] items.reverse;pure Flow.next) _ _ _
 refine FO (HD (FO (unpackItems_tuple (items:=#[u1,u2]) (I.ok.hd hc) (IsTup.new s1.heap _) fun h' hx'=>?_)))
 have I3:=I2.kept (h':=h') (t':=s1.toks) fun b o e=>hx' b o (Ga (FU e)) e
 show wpAny _ _ (assignInOrder [fun v=>bindName X.env y v,fun v=>bindName X.env x v] [u2,u1] >>= fun _=>pure Flow.next) _ _ _
 refine FO (Hf (Ic (cn I3 hN hj (.inl hy) rw' (fun s2 I4=>?_) (.inr hy))))
 refine Hf (Ic (cn I4 hN hi (.inl hx) rv (fun s3 I5=>assignInOrder_nil (FW ?_)) (.inr hx)))
 rw[List.set_comm _ _ (Ib hij)]at I5
 exact⟨_,H1,I5,q1⟩
end
section
variable {X:Cx} {pos:Pos}
def tq(c:TT)(tb:TS):TS:=fun D σ H=>∃W:Nat->St->Hp->Prop,(∃m,W m σ H)/\∀m σ H,W m σ H->
 c σ H fun b H1=>if b=true then ∃N:St->Hp->Prop,(∀σ' H',N σ' H'->∃m',m' < m/\W m' σ' H')/\tb { D with nx:=N,ct:=N,bk:=D.nx } σ H1 else D.nx σ H1
def nZ{c:Expr}{body:List Stmt}{tc:TT}{tb:TS}(hp:PassesOwn (model X.prog X.w) X.A X.env X.xe)(hc:PT X c tc)(hb:Bw X body tb):PS X (.While c body [] pos) (tq tc tb):=by
 intro pins s σ H D I h
 obtain⟨W,⟨m0,w0⟩,turn⟩:=h
 refine wpAny_While (codeAny_whileLoop (fun n s'=>∃σ' H',Inv X pins σ' H' s'/\W n σ' H') ?_ m0 ⟨σ,H,I,w0⟩)
 rintro n s1 ⟨σ1,H1,I1,w1⟩
 refine Hl hp (yK (hc pins s1 σ1 H1 _ I1 (turn n σ1 H1 w1)) fun b s2 ⟨H2,I2,q2⟩=>?_)
 cases b with
 |true=>
  obtain⟨N,hN,q2⟩:=q2
  rw[if_pos rfl]
  refine Hl hp (yK (hb pins s2 σ1 H2 _ I2 q2) fun f s3 q3=>?_)
  cases f with
  |next=>
   obtain⟨σ3,H3,I3,n3⟩:=q3
   obtain⟨m',hm,w3⟩:=hN σ3 H3 n3
   exact⟨m',hm,σ3,H3,I3,w3⟩
  |cont=>
   obtain⟨σ3,H3,I3,n3⟩:=q3
   obtain⟨m',hm,w3⟩:=hN σ3 H3 n3
   exact⟨m',hm,σ3,H3,I3,w3⟩
  |brk=>exact q3
  |ret v=>exact q3
 |false=>
  rw[if_neg F8]
  exact ID ⟨σ1,H2,I2,q2⟩
end
structure It where
 go:Nat->Hp->Prop
 Dq:Nat->Hp->V->Hp->Prop
 stop:Nat->Hp->Prop
def dM(X:Cx)(pins:Va)(H:Hp)(b:Addr):Prop:=
 H b=none/\b≠X.env.locals/\b ∉ X.fs/\(b∈X.ex\/X.s₀.heap.objs.size<=b)/\(∀x c,X.env.cells.lookup x=some c->c≠b)/\∀p∈X.pn++pins,p.1≠b
def Inv.A7{X:Cx}{pins:Va}{σ:St}{H H':Hp}{s:Shared}{b:Addr}(I:Inv X pins σ H s)(hb:s.heap.objs.size<=b)(hn:H' b=none):dM X pins H' b:=by
 refine⟨hn,Hw (F1 I.lt hb),I.C1 hb,.inr (F6 I.sz hb),fun x c e z=>?_,fun p hp z=>?_⟩
 ·obtain⟨v,q⟩:=I.cell x c e
  exact absurd (F1 q.lt (by rw[z];exact hb)) (G9 _)
 ·exact absurd (F1 (FU (I.pin p hp).1) (by rw[z];exact hb)) (G9 _)
structure kH (P:Program) (w:World) (K:Vo) (tg:Expr) (J:It) (fp:List Addr) (it:Addr) (tn:Nat->Heap->Prop):Prop where
 mem:it∈fp
 obj:∀i h,tn i h->∀b∈fp,∃o,h.get? b=some o/\∀v,o.data ≠ .cell v
 keep:∀i h h',tn i h->(∀b∈fp,∀o,h.get? b=some o->h'.get? b=some o)->tn i h'
 item:∀(X:Cx),X.prog=P->X.w=w->X.K=K->X.calm=true->∀(i:Nat) (pins:Va) (s:Shared) (σ:St) (H:Hp) (E:Vq),Inv X pins σ H s->(∀b∈fp,dM X pins H b)->tn i s.heap->J.go i H->
  wpAny (model P w) X.A (pyNext (.ref it)) (fun r s1=>∃u,r=some u/\
   wpAny (model P w) X.A (letOwnedTupleGo tg (.ref it) u) (fun _ s2=>∃x H',Inv X pins σ H' s2/\RelV x u/\J.Dq i H x H'/\tn (i+1) s2.heap/\∀b∈fp,H' b=none) E s1) E s
 done:∀(X:Cx),X.prog=P->X.w=w->X.K=K->X.calm=true->∀(i:Nat) (pins:Va) (s:Shared) (σ:St) (H:Hp) (E:Vq),Inv X pins σ H s->(∀b∈fp,dM X pins H b)->tn i s.heap->J.stop i H->
  wpAny (model P w) X.A (pyNext (.ref it)) (fun r s1=>r=none/\Inv X pins σ H s1) E s
 self:∀(A:Around) (i:Nat) (s:Shared) (Q:Vq) (E:Vq),tn i s.heap->Q (.ref it) s->wpAny (model P w) A (pyIter (.ref it)) Q E s
abbrev TI:=St->Hp->(It->Hp->Prop)->Prop
def w_(X:Cx)(pins:Va)(σ:St)(tg:Expr)(R:It->Hp->Prop)(itv:Value)(s2:Shared):Prop:=
 ∃(it:Addr) (fp:List Addr) (tn:Nat->Heap->Prop) (J:It) (H':Hp),itv = .ref it/\Inv X pins σ H' s2/\kH X.prog X.w X.K tg J fp it tn/\tn 0 s2.heap/\(∀b∈fp,dM X pins H' b)/\R J H'
def PI(X:Cx)(tg iter:Expr)(wi:TI):Prop:=
 ∀(pins:Va) (s:Shared) (σ:St) (H:Hp) (R:It->Hp->Prop),Inv X pins σ H s->wi σ H R->
  wpAny (model X.prog X.w) X.A (eval iter X.env) (fun v s1=>wpAny (model X.prog X.w) X.A (pyIter v) (w_ X pins σ tg R) X.xe s1) X.xe s
def dN {M : Model} {A : Around} {E : Value -> Shared -> Prop} {s : Shared} {tg : Expr} {it : Addr} {u : Value} {o : Obj} {n : String} {vs : Array Value} {Q : Unit -> Shared -> Prop} (ho : s.heap.get? it = some o) (hc : o.cls = .type n) (hd : o.data = .fields vs)
    (hn : ["enumerate", "zip", "dict_itemiterator", "dict_reverseitemiterator", "odict_iterator", "itertools.zip_longest", "itertools.pairwise"].contains n = false) (hQ : Q () s) : wpAny M A (letOwnedTupleGo tg (.ref it) u) Q E s := by
  unfold letOwnedTupleGo
  cases tg <;> first
    | exact FW hQ
    | (cases u <;> first
        | exact FW hQ
        | (refine FO (wpAny_load ho ?_)
           rw [hc, hd]
           show wpAny M A (if (["enumerate", "zip", "dict_itemiterator", "dict_reverseitemiterator", "odict_iterator", "itertools.zip_longest", "itertools.pairwise"].contains n && vs[0]? == some (rawInt _)) = true then _ else _) Q E s
           rw [if_neg (by intro h; rw [hn, Bool.false_and] at h; cases h)]
           exact FW hQ))
noncomputable def wG(K:Vo)(a:Addr):It:=
 ⟨fun i H=>∃xs x,SqL K H a xs/\xs[i]?=some x,fun i H x H'=>H'=H/\∀xs,SqL K H a xs->xs[i]?=some x,fun i H=>∃xs,SqL K H a xs/\xs.length<=i⟩
noncomputable def xg(K:Vo)(a:Addr):It:=
 ⟨fun i H=>∃xs x,SqT K H a xs/\xs[i]?=some x,fun i H x H'=>H'=H/\∀xs,SqT K H a xs->xs[i]?=some x,fun i H=>∃xs,SqT K H a xs/\xs.length<=i⟩
noncomputable def wH(lo:Int)(n:Nat):It:=⟨fun i _=>i < n,fun i H x H'=>H'=H/\x = .int (lo+i),fun i _=>n<=i⟩
def mR{P:Program}{w:World}{K:Vo}{tg:Expr}(a it:Addr):kH P w K tg (wG K a) [it] it (fun i h=>h.IsListIter it a i) where
 mem:=by simp
 obj:=fun i h st b hb=>by
  have e:b=it:=by simpa using hb
  subst e
  obtain⟨o,e,c,d⟩:=st
  exact⟨o,e,fun v z=>by rw[d]at z;cases z⟩
 keep:=fun i h h' st k=>st.at fun o e=>k it (by simp) o e
 item:=by
  intro X hP hw hK hc i pins s σ H E I hf st hg
  subst hP hw hK
  obtain⟨xs,x,hq,hx⟩:=hg
  obtain⟨its,rv,p,hz⟩:=I.list hq
  obtain⟨u,hu,ru⟩:=rv.get hx
  obtain⟨f0,f1,f2,f3,f4,f5⟩:=hf it (by simp)
  refine wpAny_pyNext_list_item st p.isList (x:=u) (by simpa using hu) fun h' st' sb=>?_
  have I1:Inv X pins σ H { s with heap:=h' }:=I.turned (t':=s.toks) (fun b o hb e=>(sb.2 b hb).trans e) f0 f1 f3 f4 f5
  obtain⟨o,e,c,d⟩:=id st'
  exact⟨u,rfl,dN (s:={ s with heap:=h' }) e c d (by decide) ⟨x,H,I1,ru,⟨rfl,fun ys hy=>by rw[I.Bq hy hq];exact hx⟩,st',fun b hb=>(hf b hb).1⟩⟩
 done:=by
  intro X hP hw hK hc i pins s σ H E I hf st hg
  subst hP hw hK
  obtain⟨xs,hq,hx⟩:=hg
  obtain⟨its,rv,p,hz⟩:=I.list hq
  obtain⟨f0,f1,f2,f3,f4,f5⟩:=hf it (by simp)
  have hl:=rv.length
  exact wpAny_pyNext_list_end (I.ok.hd hc) st p.isList (by simp;omega) fun h' eb=>⟨rfl,I.turned (t':=s.toks) (fun b o hb e=>eb b o hb e) f0 f1 f3 f4 f5⟩
 self:=fun _ _ _ _ _ st h=>wpAny_pyIter_listiter st h
def ls{P:Program}{w:World}{K:Vo}{tg:Expr}(a it:Addr):kH P w K tg (xg K a) [it] it (fun i h=>h.IsTupleIter it a i) where
 mem:=by simp
 obj:=fun i h st b hb=>by
  have e:b=it:=by simpa using hb
  subst e
  obtain⟨o,e,c,d⟩:=st
  exact⟨o,e,fun v z=>by rw[d]at z;cases z⟩
 keep:=fun i h h' st k=>st.at fun o e=>k it (by simp) o e
 item:=by
  intro X hP hw hK hc i pins s σ H E I hf st hg
  subst hP hw hK
  obtain⟨xs,x,hq,hx⟩:=hg
  obtain⟨its,rv,p,hz⟩:=I.tuple hq
  obtain⟨u,hu,ru⟩:=rv.get hx
  obtain⟨f0,f1,f2,f3,f4,f5⟩:=hf it (by simp)
  refine wpAny_pyNext_tuple_item st (show s.heap.IsTuple a its.toArray from p) (x:=u) (by simpa using hu) fun h' st' sb=>?_
  have I1:Inv X pins σ H { s with heap:=h' }:=I.turned (t':=s.toks) (fun b o hb e=>(sb.2 b hb).trans e) f0 f1 f3 f4 f5
  obtain⟨o,e,c,d⟩:=id st'
  exact⟨u,rfl,dN (s:={ s with heap:=h' }) e c d (by decide) ⟨x,H,I1,ru,⟨rfl,fun ys hy=>by rw[I.A8 hy hq];exact hx⟩,st',fun b hb=>(hf b hb).1⟩⟩
 done:=by
  intro X hP hw hK hc i pins s σ H E I hf st hg
  subst hP hw hK
  obtain⟨xs,hq,hx⟩:=hg
  obtain⟨its,rv,p,hz⟩:=I.tuple hq
  obtain⟨f0,f1,f2,f3,f4,f5⟩:=hf it (by simp)
  have hl:=rv.length
  exact wpAny_pyNext_tuple_end (I.ok.hd hc) st (show s.heap.IsTuple a its.toArray from p) (by simp;omega) fun h' eb=>⟨rfl,I.turned (t':=s.toks) (fun b o hb e=>eb b o hb e) f0 f1 f3 f4 f5⟩
 self:=fun _ _ _ _ _ st h=>wpAny_pyIter_tupleiter st h
def lv{P:Program}{w:World}{K:Vo}{tg:Expr}(it:Addr)(lo:Int)(n:Nat):kH P w K tg (wH lo n) [it] it (fun i h=>IsRangeIter h it (lo+(i:Nat) * 1) ((n:Int) - (i:Nat)) 1) where
 mem:=by simp
 obj:=fun i h st b hb=>by
  have e:b=it:=by simpa using hb
  subst e
  exact⟨_,st,fun v z=>by
   have z':Data.fields _=Data.cell v:=z
   cases z'⟩
 keep:=fun i h h' st k=>k it (by simp) _ st
 item:=by
  intro X hP hw hK hc i pins s σ H E I hf st hg
  subst hP hw hK
  obtain⟨f0,f1,f2,f3,f4,f5⟩:=hf it (by simp)
  have W:=Walks.range (prog:=X.prog) (w:=X.w) (I.ok.hd hc) it lo 1 n
  refine W.item i s _ _ hg st fun v h' tk hv st' kk=>?_
  obtain⟨t,rfl⟩:=hv
  have I1:Inv X pins σ H { s with heap:=h',toks:=tk }:=I.turned (fun b o hb e=>kk b o (by simpa using hb) e) f0 f1 f3 f4 f5
  refine⟨_,rfl,dN (s:={ s with heap:=h',toks:=tk }) (n:="range_iterator") st' rfl rfl (by decide) ⟨.int (lo+i),H,I1,⟨t,?_⟩,⟨rfl,rfl⟩,st',fun b hb=>(hf b hb).1⟩⟩
  rw[HW]
 done:=by
  intro X hP hw hK hc i pins s σ H E I hf st hg
  subst hP hw hK
  obtain⟨f0,f1,f2,f3,f4,f5⟩:=hf it (by simp)
  exact wpAny_pyNext_range_end (I.ok.hd hc) st (by have:n<=i:=hg;omega) fun h' eb=>⟨rfl,I.turned (t':=s.toks) (fun b o hb e=>eb b o hb e) f0 f1 f3 f4 f5⟩
 self:=fun _ _ _ _ _ st h=>wpAny_pyIter_rangeiter st h
section
variable {X:Cx} {tg:Expr}
def n6{pins:Va}{σ:St}{H:Hp}{s:Shared}{R:It->Hp->Prop}{E:Vq}{lo hi:Int}{t u v:Tok}{tk:Nat}(I:Inv X pins σ H s)(h1:-(2 ^ 62)<=lo)(h2:lo < 2 ^ 62)(h3:-(2 ^ 62)<=hi)(h4:hi < 2 ^ 62)
  (q:R (wH lo (hi - lo).toNat) H):wpAny (model X.prog X.w) X.A (pyIter (.ref s.heap.objs.size)) (w_ X pins σ tg R) E { s with heap:=s.heap.push { cls:=.type "range",data:=.fields #[.int lo t,.int hi u,.int 1 v] },toks:=tk }:=by
 refine wpAny_pyIter_range (IsRange.new ..) (small_one h1 h2 h3 h4) ?_
 have I1:Inv X pins σ H { s with heap:=s.heap.push { cls:=.type "range",data:=.fields #[.int lo t,.int hi u,.int 1 v] },toks:=tk }:=I.kept fun b o e=>FP _ e
 refine⟨(s.heap.push { cls:=.type "range",data:=.fields #[.int lo t,.int hi u,.int 1 v] }).objs.size,[(s.heap.push { cls:=.type "range",data:=.fields #[.int lo t,.int hi u,.int 1 v] }).objs.size],_,_,H,rfl,
  I1.kept (t':=tk) fun b o e=>FP _ e,lv _ lo (hi - lo).toNat,?_,fun b hb=>?_,q⟩
 ·have e1:lo+((0:Nat):Int) * 1=lo:=by simp
  have e2:(((hi - lo).toNat:Nat):Int) - ((0:Nat):Int)=Builtin.Range.rangeSize lo hi 1:=by rw[rangeSize_one];split<;>omega
  show IsRangeIter _ _ (lo+((0:Nat):Int) * 1) ((((hi - lo).toNat:Nat):Int) - ((0:Nat):Int)) 1
  rw[e1,e2]
  exact F0 _ rfl
 ·have e:b=(s.heap.push { cls:=.type "range",data:=.fields #[.int lo t,.int hi u,.int 1 v] }).objs.size:=by simpa using hb
  subst e
  exact I1.A7 (FQ _) (I1.hok.fresh (FQ _))
def vo(ta:TA):TI:=fun σ H R=>ta σ H fun vs H1=>∃j:Int,vs=[.int j]/\-(2 ^ 62)<=j/\j < 2 ^ 62/\R (wH 0 j.toNat) H1
def mS{a:Expr}{ta:TA}{p pos:Pos}(hg:Gl X "range")(hm:X.mg "range" = none)(ha:PA X [a] ta)(hs:starEach [a] X.env=[(false,eval a X.env)]:=by rfl):PI X tg (.Call (.Name "range" p) [a] [] pos) (vo ta):=by
 intro pins s σ H R I h
 refine Call_ (fg I hg hm boot_range (Gx (yK (ha pos pins s σ H _ I h) fun us s1 ⟨vs,H1,I1,r1,q1⟩=>?_) hs rfl))
 obtain⟨j,e,q1,q2,q⟩:=q1
 subst e
 cases r1 with
 |cons r rr=>
  cases rr
  obtain⟨t,rfl⟩:=r
  exact call_range_1 (n6 I1 (by omega) (by omega) q1 q2 (by simpa using q))
def xi(wi:TI)(g:TG)(tb:TS):TS:=fun D σ H=>wi σ H fun J H1=>∃W:Nat->Nat->St->Hp->Prop,(∃m,W 0 m σ H1)/\∀i m σ H,W i m σ H->
 (J.stop i H/\D.nx σ H)\/(J.go i H/\∃N:St->Hp->Prop,(∀σ' H',N σ' H'->∃m',m' < m/\W (i+1) m' σ' H')/\∀x H',J.Dq i H x H'->g x σ H' fun σ2 H2=>tb { D with nx:=N,ct:=N,bk:=D.nx } σ2 H2)
noncomputable def hJ(fp:List Addr)(h:Heap):List (Addr×Obj):=fp.filterMap fun b=>(h.get? b).map fun o=>(b,o)
def fh{fp:List Addr}{h:Heap}{b:Addr}{o:Obj}(hb:b∈fp)(e:h.get? b=some o):(b,o)∈hJ fp h:=List.mem_filterMap.mpr ⟨b,hb,by rw[e];rfl⟩
def mT{fp:List Addr}{h:Heap}{p:Addr×Obj}(hp:p∈hJ fp h):p.1∈fp/\h.get? p.1=some p.2:=by
 obtain⟨b,hb,e⟩:=List.mem_filterMap.mp hp
 cases q:h.get? b with
 |none=>rw[q]at e;cases e
 |some o=>
  rw[q]at e
  have e':(b,o)=p:=GH e
  subst e'
  exact⟨hb,q⟩
def Inv.pinned{pins:Va}{σ:St}{H:Hp}{s:Shared}{fp:List Addr}(I:Inv X pins σ H s)(hf:∀b∈fp,dM X pins H b)(ho:∀b∈fp,∃o,s.heap.get? b=some o/\∀v,o.data ≠ .cell v):Inv X (pins++hJ fp s.heap) σ H s:=
 I.AQ fun p hp=>(Gh.mp hp).elim (fun z=>I.pin p (Gb _ z)) fun z=>by
  obtain⟨hb,e⟩:=mT z
  obtain⟨f0,f1,f2,_⟩:=hf p.1 hb
  obtain⟨o,e',d⟩:=ho p.1 hb
  rw[e]at e';cases e'
  exact⟨e,f0,f1,f2,d⟩
def Inv.At{pins pl:Va}{σ:St}{H:Hp}{s:Shared}(I:Inv X (pins++pl) σ H s):Inv X pins σ H s:=I.AQ fun p hp=>I.pin p (Gb _ (Hq _ hp))
def tt{iter:Expr}{body:List Stmt}{wi:TI}{g:TG}{tb:TS}{pos:Pos}(hp:PassesOwn (model X.prog X.w) X.A X.env X.xe)(hc:X.calm=true)(hi:PI X tg iter wi)(hg:PG X tg g)(hb:Bw X body tb)
  (hs:∀x,foldedSetIterable iter X.env x=pure x:=by intro _;rfl):PS X (.For tg iter body [] pos) (xi wi g tb):=by
 intro pins s σ H D I h
 refine wpAny_For (yK (hi pins s σ H _ I h) fun v s1 h1=>yK h1 fun itv s2 h2=>?_) hs
 obtain⟨it,fp,tn,J,H2,e,I2,T,st2,f2,W,⟨m0,w0⟩,turn⟩:=h2
 subst e
 -- what stays true of the iterator's objects through the loop
 have stat:∀{H':Hp},(∀b∈fp,H' b=none)->∀b∈fp,dM X pins H' b:=fun hn b hb=>⟨hn b hb,(f2 b hb).2⟩
 refine codeAny_forLoop_any (fun n s'=>∃i σ' H',Inv X pins σ' H' s'/\tn i s'.heap/\(∀b∈fp,H' b=none)/\W i n σ' H') ?_ m0 ⟨0,σ,H2,I2,st2,fun b hb=>(f2 b hb).1,w0⟩
 rintro n s3 ⟨i,σ3,H3,I3,st3,Ex,w3⟩
 rcases turn i n σ3 H3 w3 with⟨stop,qn⟩|⟨go,N,hN,step⟩
 ·refine Hl hp (yK (T.done X rfl rfl rfl hc i pins s3 σ3 H3 X.xe I3 (stat Ex) st3 stop) fun r s4 ⟨hr,I4⟩=>?_)
  subst hr
  exact ID ⟨σ3,H3,I4,qn⟩
 ·refine Hl hp (yK (T.item X rfl rfl rfl hc i pins s3 σ3 H3 X.xe I3 (stat Ex) st3 go) fun r s4 ⟨u,hr,h4⟩=>?_)
  subst hr
  refine Hl hp (yK h4 fun _ s5 ⟨x,H5,I5,r5,y5,Ca,DI⟩=>?_)
  have DJ:=I5.pinned (stat DI) (T.obj _ _ Ca)
  refine Hl hp (yK (hg _ s5 σ3 H5 x u _ DJ r5 (step x H5 y5)) fun _ s6 ⟨σ6,H6,I6,q6⟩=>?_)
  refine Hl hp (yK (hb _ s6 σ6 H6 _ I6 q6) fun f s7 q7=>?_)
  have again:∀{σ7:St} {H7:Hp},Inv X (pins++hJ fp s5.heap) σ7 H7 s7->N σ7 H7->∃m,m < n/\∃i σ' H',Inv X pins σ' H' s7/\tn i s7.heap/\(∀b∈fp,H' b=none)/\W i m σ' H':=fun{σ7 H7} I7 n7=>by
   obtain⟨m',hm,w7⟩:=hN σ7 H7 n7
   refine⟨m',hm,i+1,σ7,H7,I7.At,T.keep _ _ _ Ca fun b hb o e=>(I7.pin (b,o) (Gb _ (Gb _ (fh hb e)))).1,fun b hb=>?_,w7⟩
   obtain⟨o,e,d⟩:=T.obj _ _ Ca b hb
   exact(I7.pin (b,o) (Gb _ (Gb _ (fh hb e)))).2.1
  cases f with
  |next=>obtain⟨σ7,H7,I7,n7⟩:=q7;exact again I7 n7
  |cont=>obtain⟨σ7,H7,I7,n7⟩:=q7;exact again I7 n7
  |brk=>obtain⟨σ7,H7,I7,q7⟩:=q7;exact⟨σ7,H7,I7.At,q7⟩
  |ret v=>obtain⟨x7,σ7,H7,I7,r7,q7⟩:=q7;exact⟨x7,σ7,H7,I7.At,r7,q7⟩
end
abbrev R2:=V->V->Hp->VK->Prop
def fX(X:Cx)(f:Value->Value->Sem Value)(r:R2):Prop:=
 ∀(pins:Va) (s:Shared) (σ:St) (H:Hp) (x y:V) (v u:Value) (Q:VK),Inv X pins σ H s->RelV x v->RelV y u->r x y H Q->
  wpAny (model X.prog X.w) X.A (f v u) (EP X pins σ Q) X.xe s
def wI(X:Cx)(f:Value->Sem Value)(r:V->Hp->VK->Prop):Prop:=
 ∀(pins:Va) (s:Shared) (σ:St) (H:Hp) (x:V) (v:Value) (Q:VK),Inv X pins σ H s->RelV x v->r x H Q->
  wpAny (model X.prog X.w) X.A (f v) (EP X pins σ Q) X.xe s
def eY(X:Cx)(f:Value)(r:List V->Hp->VK->Prop):Prop:=
 ∀(pins:Va) (s:Shared) (σ:St) (H:Hp) (xs:List V) (us:Vv) (Q:VK),Inv X pins σ H s->Vals xs us->r xs H Q->
  wpAny (model X.prog X.w) X.A (call f us) (EP X pins σ Q) X.xe s
def vp(r:R2)(ta tb:TE):TE:=fun σ H Q=>ta σ H fun x H1=>tb σ H1 fun y H2=>r x y H2 Q
def yj(r:V->Hp->VK->Prop)(ta:TE):TE:=fun σ H Q=>ta σ H fun x H1=>r x H1 Q
def rI(C:Int->Int->Prop)(g:Int->Int->V):R2:=fun x y H Q=>∃i j,x = .int i/\y = .int j/\C i j/\Q (g i j) H
def qL(g:Int->Int->V):R2:=fun x y H Q=>∃i j,x = .int i/\y = .int j/\Q (g i j) H
noncomputable def rU(g:Int->V):V->Hp->VK->Prop:=fun x H Q=>∃i,x = .int i/\Q (g i) H
section
variable {X:Cx} {a b c:Expr} {ta tb tc:TE} {pos:Pos}
def tw(ha:PE X a ta)(hb:PE X b tb){pins:Va}{s:Shared}{σ:St}{H:Hp}{R:V->V->Hp->Prop}(I:Inv X pins σ H s)
  (h:ta σ H fun x H1=>tb σ H1 fun y H2=>R x y H2) {Q:Vq} {f:Value->Value->Sem Value}
  (hf:∀v u s2 x y H2,Inv X pins σ H2 s2->RelV x v->RelV y u->R x y H2->wpAny (model X.prog X.w) X.A (f v u) Q X.xe s2) :
  wpAny (model X.prog X.w) X.A (eval a X.env) (fun v s₁=>wpAny (model X.prog X.w) X.A (eval b X.env) (fun u s₂=>wpAny (model X.prog X.w) X.A (f v u) Q X.xe s₂) X.xe s₁) X.xe s:=by
 refine yK (ha pins s σ H _ I h) fun v s1 ⟨x,H1,I1,r1,q1⟩=>?_
 refine yK (hb pins s1 σ H1 _ I1 q1) fun u s2 ⟨y,H2,I2,r2,q2⟩=>?_
 exact hf v u s2 x y H2 I2 r1 r2 q2
def vq{op:Operator}{r:R2}(ho:fX X (binaryOp op) r)(ha:PE X a ta)(hb:PE X b tb):PE X (.BinOp a op b pos) (vp r ta tb):=by
 intro pins s σ H Q I h
 exact wpAny_BinOp (tw ha hb I h fun v u s2 x y H2 I2 rx ry q=>ho pins s2 σ H2 x y v u Q I2 rx ry q)
def vt{op:UnaryOp}{r:V->Hp->VK->Prop}(ho:wI X (unaryOp op) r)(ha:PE X a ta):PE X (.UnaryOp op a pos) (yj r ta):=by
 intro pins s σ H Q I h
 exact UnaryOp_ (yK (ha pins s σ H _ I h) fun v s1 ⟨x,H1,I1,r1,q1⟩=>ho pins s1 σ H1 x v Q I1 r1 q1)
def wJ{f:Value->Value->Sem Value}{C:Int->Int->Prop}{g:Int->Int->Int}
  (rule:∀(i j:Int) (t u:Tok) (s:Shared) (Q:Vq) (E:Vq),C i j->Q (.int (g i j) s.toks) { s with toks:=s.toks+1 }->wpAny (model X.prog X.w) X.A (f (.int i t) (.int j u)) Q E s) :
  fX X f (rI C fun i j=>.int (g i j)):=by
 intro pins s σ H x y v u Q I rx ry h
 obtain⟨i,j,rfl,rfl,hc,q⟩:=h
 obtain⟨t,rfl⟩:=rx
 obtain⟨t',rfl⟩:=ry
 exact rule i j t t' s _ _ hc ⟨.int (g i j),H,I.tok _,⟨_,rfl⟩,q⟩
def vv{f:Value->Value->Sem Value}{g:Int->Int->Int}
  (rule:∀(i j:Int) (t u:Tok) (s:Shared) (Q:Vq) (E:Vq),Q (.int (g i j) s.toks) { s with toks:=s.toks+1 }->wpAny (model X.prog X.w) X.A (f (.int i t) (.int j u)) Q E s) :
  fX X f (qL fun i j=>.int (g i j)):=by
 intro pins s σ H x y v u Q I rx ry h
 obtain⟨i,j,rfl,rfl,q⟩:=h
 obtain⟨t,rfl⟩:=rx
 obtain⟨t',rfl⟩:=ry
 exact rule i j t t' s _ _ ⟨.int (g i j),H,I.tok _,⟨_,rfl⟩,q⟩
def tx{f:Value->Value->Sem Value}{g:Int->Int->Bool}
  (rule:∀(i j:Int) (t u:Tok) (s:Shared) (Q:Vq) (E:Vq),Q (.bool (g i j)) s->wpAny (model X.prog X.w) X.A (f (.int i t) (.int j u)) Q E s) :
  fX X f (qL fun i j=>.bl (g i j)):=by
 intro pins s σ H x y v u Q I rx ry h
 obtain⟨i,j,rfl,rfl,q⟩:=h
 obtain⟨t,rfl⟩:=rx
 obtain⟨t',rfl⟩:=ry
 exact rule i j t t' s _ _ ⟨.bl (g i j),H,I,rfl,q⟩
def tD(i j:Int):Prop:=0<=j/\j<=1000000/\i.natAbs < 2 ^ 64
def Cb(i j:Int):Prop:=(-(2 ^ 64) < i/\i < 2 ^ 64)\/(-(2 ^ 64) < j/\j < 2 ^ 64)
def Cb.ok{i j:Int}(h:Cb i j):IntMulOk i j:=by
 rcases h with⟨h1,h2⟩|⟨h1,h2⟩
 ·exact .of_left (intBits_le_64 h1 h2)
 ·exact .of_right (intBits_le_64 h1 h2)
def tE:fX X (binaryOp .Add) (qL fun i j=>.int (i+j)):=vv fun _ _ _ _ _ _ _ q=>add_int q
def tF:fX X (binaryOp .Sub) (qL fun i j=>.int (i - j)):=vv fun _ _ _ _ _ _ _ q=>sub_int q
def qM:fX X (binaryOp .Mod) (rI (fun _ j=>j≠0) fun i j=>.int (i.fmod j)):=wJ fun _ _ _ _ _ _ _ hc q=>mod_int' hc q
def tG:fX X (binaryOp .Pow) (rI tD fun i j=>.int (i ^ j.toNat)):=wJ fun _ _ _ _ _ _ _ hc q=>pow_int_small hc.1 hc.2.1 hc.2.2 q
def yk{f:Value->Sem Value}{g:Int->Int}
  (rule:∀(i:Int) (t:Tok) (s:Shared) (Q:Vq) (E:Vq),Q (.int (g i) s.toks) { s with toks:=s.toks+1 }->wpAny (model X.prog X.w) X.A (f (.int i t)) Q E s) :
  wI X f (rU fun i=>.int (g i)):=by
 intro pins s σ H x v Q I rx h
 obtain⟨i,rfl,q⟩:=h
 obtain⟨t,rfl⟩:=rx
 exact rule i t s _ _ ⟨.int (g i),H,I.tok _,⟨_,rfl⟩,q⟩
def tH:wI X (unaryOp .USub) (rU fun i=>.int (-i)):=yk fun _ _ _ _ _ q=>neg_int q
end
noncomputable def vx:V->V->Bool
 | .non,.non=>true | .non,.int _=>true | .int _,.non=>true | .non,.bl _=>true | .bl _,.non=>true | .non,.str _=>true | .str _,.non=>true
 | .int _,.int _=>true | .bl _,.bl _=>true | .str _,.str _=>true | .BS _,.BS _=>true
 | .int _,.str _=>true | .str _,.int _=>true | .bl _,.str _=>true | .str _,.bl _=>true
 |_,_=>false
def ym:R2:=fun x y H Q=>vx x y=true/\Q (.bl (decide (x=y))) H
def yn:R2:=fun x y H Q=>vx x y=true/\Q (.bl (!decide (x=y))) H
def l_{i j:Int}:decide (V.int i=V.int j)=(i == j):=by
 rw[HN]
 simp
def n9{i j:Bool}:decide (V.bl i=V.bl j)=(i == j):=by
 rw[HN]
 simp
def ma{i j:Str}:decide (V.str i=V.str j)=(i == j):=by
 rw[HN]
 simp
def md{i j:Array UInt8}:decide (V.BS i=V.BS j)=(i.toList == j.toList):=by
 rw[HN]
 cases i
 cases j
 simp
section
variable {X:Cx} {a b c:Expr} {ta tb tc:TE} {pos:Pos}
def aF{pins:Va}{σ:St}{H:Hp}{s:Shared}{Q:VK}{k k':Bool}(I:Inv X pins σ H s)(q:Q (.bl k) H)(e:k=k'):EP X pins σ Q (.bool k') s:=by
 subst e
 exact⟨.bl k,H,I,rfl,q⟩
def n_:fX X (compareOp .Eq) ym:=by
 intro pins s σ H x y v u Q I rx ry h
 obtain⟨hs,q⟩:=h
 cases x with
 |non=>
  cases rx
  cases y with
  |non=>cases ry;exact PySem.EqNone.eq_none_none (aF I q (by simp))
  |bl j=>cases ry;exact PySem.EqNone.eq_none_bool (aF I q (by simp))
  |int j=>obtain⟨t',rfl⟩:=ry;exact PySem.EqNone.eq_none_int (aF I q (by simp))
  |str j=>obtain⟨t',rfl⟩:=ry;exact PySem.EqNone.eq_none_str (aF I q (by simp))
  |_=>exact absurd (show false=true from hs) F8
 |bl i=>
  cases rx
  cases y with
  |non=>cases ry;exact PySem.EqNone.eq_bool_none (aF I q (by simp))
  |bl j=>cases ry;exact eq_bool (aF I q n9)
  |str j=>obtain⟨t',rfl⟩:=ry;exact PySem.EqMixed.eq_bool_str (aF I q (by simp))
  |_=>exact absurd (show false=true from hs) F8
 |int i=>
  obtain⟨t,rfl⟩:=rx
  cases y with
  |non=>cases ry;exact PySem.EqNone.eq_int_none (aF I q (by simp))
  |int j=>obtain⟨t',rfl⟩:=ry;exact eq_int (aF I q l_)
  |str j=>obtain⟨t',rfl⟩:=ry;exact PySem.EqMixed.eq_int_str (aF I q (by simp))
  |_=>exact absurd (show false=true from hs) F8
 |str i=>
  obtain⟨t,rfl⟩:=rx
  cases y with
  |non=>cases ry;exact PySem.EqNone.eq_str_none (aF I q (by simp))
  |bl j=>cases ry;exact PySem.EqMixed.eq_str_bool (aF I q (by simp))
  |int j=>obtain⟨t',rfl⟩:=ry;exact PySem.EqMixed.eq_str_int (aF I q (by simp))
  |str j=>obtain⟨t',rfl⟩:=ry;exact eq_str (aF I q ma)
  |_=>exact absurd (show false=true from hs) F8
 |BS i=>
  obtain⟨t,rfl⟩:=rx
  cases y with
  |BS j=>obtain⟨t',rfl⟩:=ry;exact PySem.W.eq_bytes (aF I q md)
  |_=>exact absurd (show false=true from hs) F8
 |_=>cases y<;>exact absurd (show false=true from hs) F8
def oa:fX X (compareOp .NotEq) yn:=by
 intro pins s σ H x y v u Q I rx ry h
 obtain⟨hs,q⟩:=h
 cases x with
 |non=>
  cases rx
  cases y with
  |non=>cases ry;exact PySem.EqNone.ne_none_none (aF I q (by simp))
  |bl j=>cases ry;exact PySem.EqNone.ne_none_bool (aF I q (by simp))
  |int j=>obtain⟨t',rfl⟩:=ry;exact PySem.EqNone.ne_none_int (aF I q (by simp))
  |str j=>obtain⟨t',rfl⟩:=ry;exact PySem.EqNone.ne_none_str (aF I q (by simp))
  |_=>exact absurd (show false=true from hs) F8
 |bl i=>
  cases rx
  cases y with
  |non=>cases ry;exact PySem.EqNone.ne_bool_none (aF I q (by simp))
  |bl j=>cases ry;exact ne_bool (aF I q (Gy not n9))
  |str j=>obtain⟨t',rfl⟩:=ry;exact PySem.EqMixed.ne_bool_str (aF I q (by simp))
  |_=>exact absurd (show false=true from hs) F8
 |int i=>
  obtain⟨t,rfl⟩:=rx
  cases y with
  |non=>cases ry;exact PySem.EqNone.ne_int_none (aF I q (by simp))
  |int j=>obtain⟨t',rfl⟩:=ry;exact ne_int (aF I q (Gy not l_))
  |str j=>obtain⟨t',rfl⟩:=ry;exact PySem.EqMixed.ne_int_str (aF I q (by simp))
  |_=>exact absurd (show false=true from hs) F8
 |str i=>
  obtain⟨t,rfl⟩:=rx
  cases y with
  |non=>cases ry;exact PySem.EqNone.ne_str_none (aF I q (by simp))
  |bl j=>cases ry;exact PySem.EqMixed.ne_str_bool (aF I q (by simp))
  |int j=>obtain⟨t',rfl⟩:=ry;exact PySem.EqMixed.ne_str_int (aF I q (by simp))
  |str j=>obtain⟨t',rfl⟩:=ry;exact ne_str (aF I q (Gy not ma))
  |_=>exact absurd (show false=true from hs) F8
 |BS i=>
  obtain⟨t,rfl⟩:=rx
  cases y with
  |BS j=>obtain⟨t',rfl⟩:=ry;exact PySem.W.ne_bytes (aF I q (Gy not md))
  |_=>exact absurd (show false=true from hs) F8
 |_=>cases y<;>exact absurd (show false=true from hs) F8
def vy:fX X (compareOp .Lt) (qL fun i j=>.bl (decide (i < j))):=tx fun _ _ _ _ _ _ _ q=>lt_int q
def vz:fX X (compareOp .Gt) (qL fun i j=>.bl (decide (j < i))):=tx fun _ _ _ _ _ _ _ q=>gt_int q
def vA:fX X (compareOp .GtE) (qL fun i j=>.bl (decide (j<=i))):=tx fun _ _ _ _ _ _ _ q=>ge_int q
def mU:fX X (compareOp .In) (fun x y H Q=>∃i j,x = .str i/\y = .str j/\Q (.bl (!(Builtin.Str.occurrences j i 0 j.length 1).isEmpty)) H):=by
 intro pins s σ H x y v u Q I rx ry h
 obtain⟨i,j,rfl,rfl,q⟩:=h
 obtain⟨t,rfl⟩:=rx
 obtain⟨t',rfl⟩:=ry
 exact in_str (aF I q rfl)
def a9(b:Expr){op:CmpOp}(h:op ≠ .In:=by decide)(h2:op ≠ .NotIn:=by decide):behindInMarks op b=false:=by
 have e1:(op == CmpOp.In)=false:=by cases op<;>first|rfl|exact absurd rfl h
 have e2:(op == CmpOp.NotIn)=false:=by cases op<;>first|rfl|exact absurd rfl h2
 cases b<;>simp[behindInMarks,e1,e2]
def qN{op:CmpOp}{r:R2}(ho:fX X (compareOp op) r)(ha:PE X a ta)(hb:PE X b tb)(hm:behindInMarks op b=false):PE X (.Compare a [op] [b] pos) (vp r ta tb):=by
 intro pins s σ H Q I h
 exact wpAny_Compare1 (tw ha hb I h fun v u s2 x y H2 I2 rx ry q=>ho pins s2 σ H2 x y v u Q I2 rx ry q) hm
def vB(t:TE):TT:=fun σ H Q=>t σ H fun x H'=>∃k,x = .bl k/\Q k H'
def qO{op:CmpOp}{r:R2}(ho:fX X (compareOp op) r)(ha:PE X a ta)(hb:PE X b tb)(hm:behindInMarks op b=false):PT X (.Compare a [op] [b] pos) (vB (vp r ta tb)):=by
 intro pins s σ H Q I h
 refine wpAny_isTrue_Compare1 (yK (ha pins s σ H _ I h) fun v s1 ⟨x,H1,I1,r1,q1⟩=>yK (hb pins s1 σ H1 _ I1 q1) fun u s2 ⟨y,H2,I2,r2,q2⟩=>
  yK (ho pins s2 σ H2 x y v u _ I2 r1 r2 q2) fun c s3 ⟨z,H3,I3,r3,k,e,q3⟩=>?_) hm
 subst e
 cases r3
 exact wpAny_truthy_bool ⟨H3,I3,q3⟩
def fY:(sizeLine:Nat) < 2 ^ 63:=by rw[sizeLine_eq];decide
def lw:fX X (binaryOp .Add) (fun x y H Q=>∃i j,x = .str i/\y = .str j/\i.length+j.length<=sizeLine/\Q (.str (i++j)) H):=by
 intro pins s σ H x y v u Q I rx ry h
 obtain⟨i,j,rfl,rfl,hz,q⟩:=h
 obtain⟨t,rfl⟩:=rx
 obtain⟨t',rfl⟩:=ry
 exact add_str (fun t' tk=>⟨.str (i++j),H,I.tok _,⟨_,rfl⟩,q⟩) hz
def fD{x:V}{us:Vv}(r:Vals [x] us):∃u,us=[u]/\RelV x u:=by
 cases r with
 |cons r1 r2=>cases r2;exact⟨_,rfl,r1⟩
def og{x y:V}{us:Vv}(r:Vals [x,y] us):∃u w',us=[u,w']/\RelV x u/\RelV y w':=by
 cases r with
 |cons r1 r2=>
  cases r2 with
  |cons r3 r4=>cases r4;exact⟨_,_,rfl,r1,r3⟩
def oh:eY X (.builtin "abs") (fun xs H Q=>∃i,xs=[.int i]/\Q (.int (if i < 0 then -i else i)) H):=by
 intro pins s σ H xs us Q I r h
 obtain⟨i,rfl,q⟩:=h
 obtain⟨u,rfl,t,rfl⟩:=fD r
 exact call_abs_int fun u tk=>⟨.int (if i < 0 then -i else i),H,I.tok _,⟨_,rfl⟩,q⟩
def mV(hc:X.calm=true):eY X (.builtin "max") (fun xs H Q=>∃i j,xs=[.int i,.int j]/\Q (.int (if j > i then j else i)) H):=by
 intro pins s σ H xs us Q I r h
 obtain⟨i,j,rfl,q⟩:=h
 obtain⟨u,w',rfl,⟨t,rfl⟩,⟨t',rfl⟩⟩:=og r
 refine max_two_ints (I.ok.hd hc) fun h' tk k=>⟨_,H,I.kept k,?_,q⟩
 by_cases hj:j > i
 ·rw[if_pos hj,if_pos hj];exact⟨_,rfl⟩
 ·rw[if_neg hj,if_neg hj];exact⟨_,rfl⟩
def jc:eY X (.type "int") (fun xs H Q=>(∃i,xs=[.int i]/\Q (.int i) H)\/∃k,xs=[.bl k]/\Q (.int (if k then 1 else 0)) H):=by
 intro pins s σ H xs us Q I r h
 rcases h with⟨i,rfl,q⟩|⟨k,rfl,q⟩
 ·obtain⟨u,rfl,t,rfl⟩:=fD r
  exact call_int_int ⟨.int i,H,I,⟨_,rfl⟩,q⟩
 ·obtain⟨u,rfl,r1⟩:=fD r
  cases r1
  exact call_int_bool ⟨.int (if k then 1 else 0),H,I.tok _,⟨_,rfl⟩,q⟩
end
def RelO.some_of{v:V}{o:Option Value}(r:RelO (some v) o):∃u,o=some u/\RelV v u:=by
 cases o with
 |none=>exact(show False from r).elim
 |some u=>exact⟨u,rfl,r⟩
structure Room (k:Nat) (A:Around):Prop where
 hd:A.handled=none
 dp:A.depth+3 * k+5 < recursionLimit
 un:A.units+16 * k+200 < cLine
 gd:A.guards=some []
def Room.mono{j k:Nat}{A:Around}(r:Room k A)(h:j<=k):Room j A:=⟨r.hd,by have:=r.dp;omega,by have:=r.un;omega,r.gd⟩
theorem Room.deeper{k:Nat}{A:Around}(r:Room (k+1) A)(env:Env):Room k (A.deeper env):=
 ⟨r.hd,by have:=r.dp;show A.depth+1+3 * k+5 < _;omega,by have:=r.un;show A.units+3+16 * k+200 < _;omega,r.gd⟩
theorem Room.depth{k:Nat}{A:Around}(r:Room k A):A.depth < recursionLimit:=by have:=r.dp;omega
def vC:TA:=fun _ H Q=>Q [] H
def su(ta:TE)(tr:TA):TA:=fun σ H Q=>ta σ H fun x H1=>tr σ H1 fun xs H2=>Q (x::xs) H2
section
variable {X:Cx} {e:Expr} {es:List Expr} {te:TE} {t:TA} {pos:Pos}
def tI:PA X [] vC:=fun _ _ _ _ H Q I h=>Calls.spliced_nil ⟨[],H,I,.nil,h⟩
def qP(ha:PE X e te)(hr:PA X es t)(hs:starEach (e::es) X.env=(false,eval e X.env)::starEach es X.env:=by rfl):PA X (e::es) (su te t):=by
 intro pos pins s σ H Q I h
 rw[hs]
 show wpAny _ _ (spliced ((false,eval e X.env)::backTo pos (starEach es X.env))) _ _ s
 refine Calls.spliced_cons (yK (ha pins s σ H _ I h) fun u s1 ⟨x,H1,I1,r1,q1⟩=>?_)
 exact yK (hr pos pins s1 σ H1 _ I1 q1) fun us s2 ⟨xs,H2,I2,r2,q2⟩=>⟨x::xs,H2,I2,.cons r1 r2,q2⟩
def xl(t:TA):TE:=fun σ H Q=>t σ H fun xs H1=>xs.length<=sizeLine/\∀p,H1 p=none->Q (.ref p) (upd H1 p (.tup xs))
def xq(t:TA):TE:=fun σ H Q=>t σ H fun xs H1=>xs.length<=sizeLine/\∀p,H1 p=none->Q (.ref p) (upd H1 p (.lst xs))
def tJ{x1}(h:PA X es t):PE X (.Tuple es x1 pos) (xl t):=by
 intro pins s σ H Q I hq
 refine wpAny_Tuple_spliced (yK (h pos pins s σ H _ I hq) fun us s1 ⟨xs,H1,I1,r,z,q⟩=>⟨by rw[<-r.length];exact z,?_⟩)
 have hf:H1 s1.heap.objs.size=none:=I1.hok.fresh (FQ _)
 refine⟨.ref s1.heap.objs.size,upd H1 s1.heap.objs.size (.tup xs),I1.laid (t':=s1.toks) (fun b u e=>FP _ e) (FQ _) ?_,rfl,q _ hf⟩
 exact⟨z,us,r,⟨_,F0 _ rfl,rfl,rfl,_,rfl⟩⟩
def tK(h:PA X es t):PE X (.List es pos) (xq t):=by
 intro pins s σ H Q I hq
 refine wpAny_List_spliced (yK (h pos pins s σ H _ I hq) fun us s1 ⟨xs,H1,I1,r,z,q⟩=>⟨by rw[<-r.length];exact z,?_⟩)
 have hf:H1 s1.heap.objs.size=none:=I1.hok.fresh (FQ _)
 refine⟨.ref s1.heap.objs.size,upd H1 s1.heap.objs.size (.lst xs),I1.laid (t':=s1.toks) (fun b u e=>FP _ e) (FQ _) ?_,rfl,q _ hf⟩
 exact⟨z,us,0,r,F0 _ rfl⟩
end
abbrev Sp:=List V->Hp->VK->XK->Prop
abbrev qu:=List Env->Hp->Shared->XK->Value->Shared->Prop
structure qQ (P:Program) (w:World) (K:Vo) (mg:Vr) (base:Heap) (A:Around) (outer:List Env) (s:Shared) (H:Hp):Prop where
 frames:A.frames=some outer
 mod:Mod K mg base
 bs:∀b o,base.get? b=some o->s.heap.get? b=some o/\H b=none
 B_:base.objs.size<=s.heap.objs.size
 AM:s.heap.FunFrames base outer
 Cu:∀b∈frs outer,H b=none
 hok:z_ P w H s.heap
 bare:AllBare s.gens
def CE(outer:List Env)(P:Program)(w:World)(H:Hp)(s:Shared)(Q:VK)(u:Value)(s':Shared):Prop:=
 ∃v H',s'.os=s.os/\AllBare s'.gens/\Un (frs outer) [] H H' s.heap s'.heap/\z_ P w H' s'.heap/\RelV v u/\Q v H'
def CR(CX:qu)(outer:List Env)(P:Program)(w:World)(H:Hp)(s:Shared)(Q:VK)(E:XK)(r:Result)(s':Shared):Prop:=
 match r with
 | .ok (.ret u)=>CE outer P w H s Q u s'
 | .ok _=>False
 | .error e=>CX outer H s E e s'
structure jJ (P:Program) (w:World) (K:Vo) (mg:Vr) (base:Heap) (CX:qu) (k:Nat) (f:Addr) (fd:FuncData) (ps:Vs) (sp:Sp):Prop where
 len:∀vs H Q E,sp vs H Q E->vs.length=ps.length
 run:∀(A:Around) (outer:List Env) (s:Shared) (H:Hp) (args:Args) (us:Vv) (vs:List V) (Q:VK) (E:XK),Room k A->qQ P w K mg base A outer s H->BindsTo s fd args (ps.zip us)->Vals vs us->sp vs H Q E->
  codeAny (model P w) A (.call (.ref f) args) (CR CX outer P w H s Q E) s
section
variable {X:Cx} {pins:Va} {σ:St} {H:Hp} {s s':Shared}
def Inv.DK(I:Inv X pins σ H s):qQ X.prog X.w X.K X.mg X.base X.A X.stack s H:=
 ⟨I.ok.frames,I.ok.mod,I.bs,F6 I.ok.B_ I.sz,I.stack,I.BF,I.hok,I.bare⟩
def Inv.after{Q:VK}{u:Value}(I:Inv X pins σ H s)(h:CE X.stack X.prog X.w H s Q u s'):EP X pins σ Q u s':=by
 obtain⟨v,H',os,bare,un,hok,r,q⟩:=h
 obtain⟨hh,g,d,t,os'⟩:=s'
 obtain rfl:os'=s.os:=os
 exact⟨v,H',I.call (h':=hh) (g':=g) (d':=d) (t':=t) (ch:=[]) un hok bare (fun b z=>absurd z (by simp)),r,q⟩
end
def vD(sp:Sp)(dvs:List V)(E:XK)(t:TA):TE:=fun σ H Q=>t σ H fun vs H1=>sp (vs++dvs) H1 Q E
def Binds(K:Vo)(fd:FuncData)(ps:Vs)(ds:Vv):Prop:=
 ∀(s:Shared) (us:Vv),K.In s.heap->(us++ds).length=ps.length->BindsTo s fd ⟨us,[]⟩ (ps.zip (us++ds))
def Binds.all{K:Vo}{fd:FuncData}{ps:Vs}(h:∀us:List Value,us.length=ps.length->bindArgs fd ⟨us,[]⟩=pure (ps.zip us)):Binds K fd ps []:=fun s us _ hl=>by
 rw[Hy]at hl ⊢
 exact .of_eq (h us hl)
def lx(CX:qu)(X:Cx)(E:XK):Prop:=∀(pins:Va) (σ:St) (H:Hp) (s:Shared) (e:Value) (s':Shared),Inv X pins σ H s->CX X.stack H s E e s'->X.xe e s'
section
variable {X:Cx} {CX:qu} {k:Nat} {f C:Addr} {fd:FuncData} {ps:Vs} {sp:Sp} {dvs:List V} {ds:Vv} {E:XK} {x m:Str} {p pos apos:Pos} {e o:Expr} {es:List Expr} {ta:TE} {t:TA}
def tL{pins:Va}{σ:St}{H:Hp}{s:Shared}{Q:VK}{us:Vv}{vs:List V}(F:jJ X.prog X.w X.K X.mg X.base CX k f fd ps sp)(hr:Room k X.A)(hb:Binds X.K fd ps ds)(hd:Vals dvs ds)(hx:lx CX X E)
  (I:Inv X pins σ H s) (r:Vals vs us) (h:sp (vs++dvs) H Q E):wpAny (model X.prog X.w) X.A (call (.ref f) us) (EP X pins σ Q) X.xe s:=by
 have r2:Vals (vs++dvs) (us++ds):=r.append hd
 have hl:(us++ds).length=ps.length:=by rw[<-r2.length];exact F.len _ _ _ _ h
 refine wpAny_call (codeAny_mono (F.run X.A X.stack s H ⟨us,[]⟩ (us++ds) (vs++dvs) Q E hr I.DK (hb s us I.CT hl) r2 h) fun r s' hq=>?_)
 cases r with
 |error e=>exact hx pins σ H s e s' I hq
 |ok fl=>
  cases fl with
  |ret u=>exact I.after hq
  |next=>exact False.elim hq
  |brk=>exact False.elim hq
  |cont=>exact False.elim hq
def qR(F:jJ X.prog X.w X.K X.mg X.base CX k f fd ps sp)(hr:Room k X.A)(hg:Gl X x)(hm:X.mg x=some (.ref f))(hk:PySem.W.keepIn X.K (.ref f)=true)(hb:Binds X.K fd ps ds)(hd:Vals dvs ds)(hx:lx CX X E)
  (ha:PA X (e::es) t) (hdb:(x == ("__debug__":Str))=false:=by decide) (he:starEach (e::es) X.env=(false,eval e X.env)::starEach es X.env:=by rfl) (hpl:(backTo pos (starEach es X.env)).any (·.1)=false:=by rfl) :
  PE X (.Call (.Name x p) (e::es) [] pos) (vD sp dvs E t):=by
 intro pins s σ H Q I h
 refine Hx (qC I hg hm ?_ hdb)
 refine PySem.W.callWith_K (h₀:=X.base) I.ok.mod.DD hk (yK (ha pos pins s σ H _ I h) fun us s1 ⟨vs,H1,I1,r,q⟩=>⟨I1.CT,?_⟩) he hpl
 exact tL F hr hb hd hx I1 r q
end
structure eM (N P:Vs) (sc:Scope):Prop where
 kind:sc.kind = .function
 co:sc.isCoroutine=false
 gen:sc.isGenerator=false
 nd:N.Nodup
 pre:N.take P.length=P
 par:∀x∈P,sc.names.lookup x=some .local\/sc.names.lookup x=some .cell
 Cy:∀y∈sc.names,y.2 ≠ .free
theorem jd{kindOf:Str->Option NameKind}{x:Str}:∀{binds:List (Str×Value)} {m:Vr},(∀v,(x,v) ∉ binds)->bindL kindOf binds m x=m x
 |[],_,_=>rfl
 |(n,v)::r,m,h=>by
  unfold bindL
  rw[jd fun w hw=>h w (GX _ hw)]
  split
  ·have:x≠n:=by rintro rfl;exact h v GR
   simp[this]
  ·rfl
theorem je{kindOf:Str->Option NameKind}{x:Str}:∀{binds:List (Str×Value)} {m:Vr},(∀v,(x,v) ∉ binds)->bindC kindOf binds m x=m x
 |[],_,_=>rfl
 |(n,v)::r,m,h=>by
  unfold bindC
  rw[je fun w hw=>h w (GX _ hw)]
  split
  ·rfl
  ·have:x≠n:=by rintro rfl;exact h v GR
   simp[this]
theorem jf{kindOf:Str->Option NameKind}{x:Str}{v:Value}:∀{P:Vs} {vs:Vv} {i:Nat} {m:Vr},P.Nodup->P[i]?=some x->vs[i]?=some v->kindOf x=some .local->
  bindL kindOf (P.zip vs) m x=some v
 |[],_,_,_,_,h,_,_=>by simp at h
 |_::_,[],_,_,_,_,h,_=>by simp at h
 |p::P,w::vs,0,m,nd,h1,h2,hk=>by
  simp at h1 h2;subst h1;subst h2
  show bindL kindOf ((p,w)::P.zip vs) m p=_
  unfold bindL
  rw[jd fun v hv=>(Ho.mp nd).1 (List.of_mem_zip hv).1,if_pos hk]
  simp
 |p::P,w::vs,i+1,m,nd,h1,h2,hk=>by
  show bindL kindOf ((p,w)::P.zip vs) m x=_
  unfold bindL
  exact jf (i:=i) (Ho.mp nd).2 (by simpa using h1) (by simpa using h2) hk
theorem jg{kindOf:Str->Option NameKind}{x:Str}{v:Value}:∀{P:Vs} {vs:Vv} {i:Nat} {m:Vr},P.Nodup->P[i]?=some x->vs[i]?=some v->kindOf x≠some .local->
  bindC kindOf (P.zip vs) m x=some v
 |[],_,_,_,_,h,_,_=>by simp at h
 |_::_,[],_,_,_,_,h,_=>by simp at h
 |p::P,w::vs,0,m,nd,h1,h2,hk=>by
  simp at h1 h2;subst h1;subst h2
  show bindC kindOf ((p,w)::P.zip vs) m p=_
  unfold bindC
  rw[je fun v hv=>(Ho.mp nd).1 (List.of_mem_zip hv).1,if_neg hk]
  simp
 |p::P,w::vs,i+1,m,nd,h1,h2,hk=>by
  show bindC kindOf ((p,w)::P.zip vs) m x=_
  unfold bindC
  exact jg (i:=i) (Ho.mp nd).2 (by simpa using h1) (by simpa using h2) hk
noncomputable def dO(N:Vs)(vs:List V):St:=vs.map some++List.replicate (N.length - vs.length) none
noncomputable def ly(CX:qu)(P:Program)(w:World)(K:Vo)(mg:Vr)(base:Heap)(N:Vs)(qual:Str)(scope:Scope)(f:Addr)(cd:Value)(A:Around)(outer:List Env)(s:Shared)(H:Hp)(E:XK):Cx where
 prog:=P
 w:=w
 K:=K
 mg:=mg
 base:=base
 A:=A.deeper (envOfC qual scope s.heap.objs.size f cd)
 N:=N
 s₀:=s
 H₀:=H
 env:=envOfC qual scope s.heap.objs.size f cd
 outer:=outer
 stack:=envOfC qual scope s.heap.objs.size f cd::outer
 ex:=[]
 calm:=true
 fn:=fun _=>true
 pn:=[]
 xe:=fun e s'=>wpAny (model P w) (A.deeper (envOfC qual scope s.heap.objs.size f cd)) (leaving (envOfC qual scope s.heap.objs.size f cd) e) (fun _ s''=>CX outer H s E e s'') (fun e' s''=>CX outer H s E e' s'') s'
def kI{sc:Scope}{n:Nat}{x:Str}(h:sc.names.lookup x=some .cell):∃c,(cellsFrom n sc.names []).lookup x=some c:=by
 have q:=PySem.W.cellsFrom_some sc.names n [] (.inl h)
 exact Option.isSome_iff_exists.mp q
def mW{CX:qu}{P:Program}{w:World}{K:Vo}{mg:Vr}{base:Heap}{N ps:Vs}{qual:Str}{scope:Scope}{f:Addr}{cd:Value}{A:Around}{outer:List Env}{s s1:Shared}{H:Hp}{E:XK}{us:Vv}{vs:List V}
  (S:eM N ps scope) (hd:A.handled=none) (e0:qQ P w K mg base A outer s H) (hl:vs.length=ps.length) (r:Vals vs us)
  (x:InCallC s s.heap.objs.size (bindL (envOfC qual scope s.heap.objs.size f cd).kindOf (ps.zip us) fun _=>none) (cellsFrom (s.heap.objs.size+1) scope.names []) (bindC (envOfC qual scope s.heap.objs.size f cd).kindOf (ps.zip us) fun _=>none) s1) :
  Inv (ly CX P w K mg base N qual scope f cd A outer s H E) [] (dO N vs) H s1:=by
 have hpl:ps.length<=N.length:=by have:=Gy List.length S.pre;rw[GS]at this;omega
 obtain⟨h1,tk,rfl,hk⟩:=x.done
 have C6:∀b:Addr,b ∉ (ly CX P w K mg base N qual scope f cd A outer s H E).ex:=fun b z=>absurd (show b∈([]:List Addr)from z) (by simp)
 refine⟨⟨e0.mod,S.kind,rfl,rfl,FQ _,fun y z c h1 h2=>?_,fun y hy=>?_,fun y c _ h=>?_,fun _=>hd,Around.frames_deeper e0.frames,.inr ⟨rfl,rfl⟩,fun b z=>absurd z (C6 b),e0.bs,e0.B_,fun b _ _=>C6 b,fun b z=>absurd z (C6 b),e0.AM,e0.Cu⟩,
  rfl,e0.bare,Un.kept hk,⟨_,x.toInCall.ns,fun i y v h1 h2 h3=>?_⟩,fun y c h=>⟨_,x.cell y c h⟩,e0.hok.fresh (FQ _),fun y c h=>?_,fun p hp=>absurd (show p∈([]:Va)from hp) (by simp),e0.hok.kept hk,?_⟩
 ·exact name_of_addr x.apart (G6 h1) (G6 h2)
 ·have hy:scope.names.lookup y=some .cell\/scope.names.lookup y=some .free:=hy
  rcases hy with hy|hy
  ·exact kI hy
  ·exact absurd rfl (S.Cy _ (G6 hy))
 ·exact Ia (x.above y c (G6 h))
 ·have hi:i < vs.length:=by
   unfold dO at h2
   by_cases hi:i < vs.length
   ·exact hi
   ·rw[GN (by simpa using hi)]at h2
    rw[G2]at h2
    split at h2<;>cases h2
  have ha:vs[i]?=some v:=by
   unfold dO at h2
   rw[GB (by simpa using hi),F4]at h2
   cases e:vs[i]? with
   |none=>rw[e]at h2;cases h2
   |some a=>rw[e]at h2;cases h2;rfl
  obtain⟨u,hu,rv⟩:=r.get ha
  have hp:ps[i]?=some y:=by
   rw[<-S.pre,List.getElem?_take_of_lt (by omega)];exact h1
  have Ey:ps.Nodup:=by rw[<-S.pre];exact S.nd.sublist (HB _ _)
  refine⟨u,rv,?_⟩
  rcases S.par y (List.mem_of_getElem? hp)with k|k
  ·exact .inl ⟨k,jf Ey hp hu k⟩
  ·obtain⟨c,e⟩:=kI (n:=s.heap.objs.size+1) k
   refine .inr ⟨.inl k,c,e,?_⟩
   have q:=x.cell y c e
   rw[jg Ey hp hu (by show scope.names.lookup y≠_;rw[k];decide)]at q
   exact q
 ·exact e0.hok.fresh (Ia (x.above y c (G6 h)))
 ·unfold dO
  show _=N.length
  rw[F3,FZ,Gp]
  omega
def vE{CX:qu}{P:Program}{w:World}{K:Vo}{mg:Vr}{base:Heap}{k:Nat}{f:Addr}{name qual:Str}{params:Arguments}{body:List Stmt}{scope:Scope}{dV kV doc pm cdv ct oc:Value}{an od:Option Addr}
  {osl:Array (Option Value)} {N ps:Vs} {sp:Sp} (lk:K.lookup f=some ⟨oc,od,.func (PySem.W.fnOf name qual params body scope dV kV doc pm an cdv ct),osl⟩) (hcd:PySem.W.codeIn K cdv qual=true) (S:eM N ps scope)
  (len:∀vs H Q E,sp vs H Q E->vs.length=ps.length)
  (hbody:∀(A:Around) (outer:List Env) (s:Shared) (H:Hp) (vs:List V) (Q:VK) (E:XK),Room k (A.deeper (envOfC qual scope s.heap.objs.size f cdv))->sp vs H Q E->
   ∃t,Bw (ly CX P w K mg base N qual scope f cdv A outer s H E) body t/\t { nx:=fun _ H'=>Q .non H',rt:=Q } (dO N vs) H) :
  jJ P w K mg base CX (k+1) f (PySem.W.fnOf name qual params body scope dV kV doc pm an cdv ct) ps sp:=by
 refine⟨len,fun A outer s H args us vs Q E hr e0 hb r Cn=>?_⟩
 have hl:=len _ _ _ _ Cn
 have KX:K.In s.heap:=e0.mod.DD.keeps fun b o e=>(e0.bs b o e).1
 have lim:s.heap.NoLimit:=e0.mod.nolimit.keeps fun b o e=>(e0.bs b o e).1
 have hkind:∀y∈ps.zip us,scope.names.lookup y.1=some .local\/(scope.names.lookup y.1=some .cell/\((cellsFrom (s.heap.objs.size+1) scope.names []).lookup y.1).isSome=true):=fun⟨n,v⟩ hy=>by
  rcases S.par n (List.of_mem_zip hy).1 with q|q
  ·exact .inl q
  ·exact .inr ⟨q,PySem.W.cellsFrom_some _ _ _ (.inl q)⟩
 refine codeAny_call_function hr.depth (KX _ _ lk) rfl S.co S.gen rfl (PySem.W.codeRec_of KX hcd) (hb _ _ _ _ ?_)
 refine wpAny_newFunctionEnv_cells S.kind hkind fun env he s1 x=>?_
 subst he
 refine⟨lim.keeps x.toInCall.keep,codeAny_func ?_⟩
 obtain⟨t,ht,hq⟩:=hbody A outer s H vs Q E (hr.deeper _) Cn
 have I:Inv (ly CX P w K mg base N qual scope f cdv A outer s H E) [] (dO N vs) H s1:=mW S hr.hd e0 hl r x
 refine Hv (ht [] s1 (dO N vs) H _ I hq) (fun fl s' hs=>?_) fun e s' hs=>hs
 have fin:∀{σ':St} {H':Hp} {v:V} {u:Value},Inv (ly CX P w K mg base N qual scope f cdv A outer s H E) [] σ' H' s'->RelV v u->Q v H'->CE outer P w H s Q u s':=
  fun{σ' H' v u} J rv q=>⟨v,H',J.os,J.bare,J.base,J.hok,rv,q⟩
 cases fl with
 |ret u=>
  obtain⟨v,σ',H',J,rv,q⟩:=hs
  exact fin J rv q
 |next=>
  obtain⟨σ',H',J,q⟩:=hs
  exact fin (v:=V.non) (u:=Value.none) J rfl q
 |brk=>
  obtain⟨_,_,_,q⟩:=hs
  exact False.elim q
 |cont=>
  obtain⟨_,_,_,q⟩:=hs
  exact False.elim q
section
variable {X:Cx} {x:Str} {p pos:Pos} {e:Expr} {es:List Expr} {t:TA} {id T:String} {r:List V->Hp->VK->Prop}
def yb(r:List V->Hp->VK->Prop)(t:TA):TE:=fun σ H Q=>t σ H fun vs H1=>r vs H1 Q
def oi(hc:eY X (.builtin id) r)(hg:Gl X x)(hm:X.mg x=none)(hv:bootBuiltins x=some (.builtin id))(ha:PA X (e::es) t)(hn:x ≠ "__name__":=by decide)(hdb:(x == ("__debug__":Str))=false:=by decide)
  (he:starEach (e::es) X.env=(false,eval e X.env)::starEach es X.env:=by rfl) (hpl:(backTo pos (starEach es X.env)).any (·.1)=false:=by rfl):PE X (.Call (.Name x p) (e::es) [] pos) (yb r t):=by
 intro pins s σ H Q I h
 refine Hx (fg I hg hm hv ?_ hn hdb)
 exact PyProof.Rows.callWith_builtin1 (yK (ha pos pins s σ H _ I h) fun us s1 ⟨vs,H1,I1,r1,q1⟩=>hc pins s1 σ H1 vs us Q I1 r1 q1) he hpl
def mX(hc:eY X (.type T) r)(hg:Gl X x)(hm:X.mg x=none)(hv:bootBuiltins x=some (.type T))(ha:PA X (e::es) t)(hn:x ≠ "__name__":=by decide)(hdb:(x == ("__debug__":Str))=false:=by decide)
  (he:starEach (e::es) X.env=(false,eval e X.env)::starEach es X.env:=by rfl) (hpl:(backTo pos (starEach es X.env)).any (·.1)=false:=by rfl):PE X (.Call (.Name x p) (e::es) [] pos) (yb r t):=by
 intro pins s σ H Q I h
 refine Hx (fg I hg hm hv ?_ hn hdb)
 exact Gx (yK (ha pos pins s σ H _ I h) fun us s1 ⟨vs,H1,I1,r1,q1⟩=>hc pins s1 σ H1 vs us Q I1 r1 q1) he hpl
end
end L2
namespace HT
open PySem PyProof.Rows
section
open PySem.SeqAt
open PySem.AutoSeq1 (wpAny_loadPart')
open PySem.MeetsSeq PySem.MeetsSeq2 PySem.MeetsSeq3
end
section
variable {prog:Program} {w:World} {A:Around} {E:Vq} {s:Shared}
def qS{t b:Addr}{vs ws:Vv}{Q:Vq}(ht:IsTup s.heap t vs.toArray)(hb:IsTup s.heap b ws.toArray)(hv:vs≠[])
  (h1:ws=[]->Q (.ref t) s) (h2:ws≠[]->Q (.ref s.heap.objs.size) { s with heap:=s.heap.push { cls:=.type "tuple",data:=.seq (vs++ws).toArray } })
  (hsz:vs.length+ws.length<=sizeLine):wpAny (model prog w) A (binaryOp .Add (.ref t) (.ref b)) Q E s:=by
 obtain⟨⟨cls,dd,data,sl⟩,ho,hc,n,hd⟩:=id ht
 obtain⟨⟨DL,dd2,data2,sl2⟩,ho2,hc2,n2,hd2⟩:=id hb
 simp only at hc hd hc2 hd2
 subst hc hd hc2 hd2
 have e:vs.toArray++ws.toArray=(vs++ws).toArray:=by simp
 by_cases hw:ws=[]
 ·exact concat_meets ⟨_,ho,rfl⟩ ⟨_,ho2,rfl⟩ noFill_tuple_add seq_tuple_add Ie HX (HM _ _)
   (tuple_addW1 t b vs.toArray ws.toArray n n2 dd dd2 sl sl2 (by simpa using hv) (by simp[hw])) ⟨ho,ho2,h1 hw⟩
 ·refine concat_meets ⟨_,ho,rfl⟩ ⟨_,ho2,rfl⟩ noFill_tuple_add seq_tuple_add Ie HX (HM _ _)
   (tuple_addW2 t b vs.toArray ws.toArray n n2 dd dd2 sl sl2 (by simpa using hv) (by simpa using hw) (by rw[FY,FY];exact hsz)) ⟨ho,ho2,?_⟩
  rw[e]
  exact h2 hw
noncomputable def yS(n d:Nat):Option Int->Nat
 |none=>d
 |some v=>if v < 0 then (v+(n:Int)).toNat else min v.toNat n
def oj(n d:Nat):yS n d none=d:=rfl
def qT(n d k:Nat):yS n d (some (k:Int))=min k n:=by
 show(if (k:Int) < 0 then ((k:Int)+(n:Int)).toNat else min (k:Int).toNat n)=min k n
 rw[if_neg (by omega),GO]
def tM(n d:Nat)(hd:d<=n)(o:Option Int):yS n d o<=n:=by
 cases o with
 |none=>exact hd
 |some v=>
  show(if v < 0 then (v+(n:Int)).toNat else min v.toNat n)<=n
  by_cases hv:v < 0
  ·rw[if_pos hv];omega
  ·rw[if_neg hv];exact Nat.min_le_right _ _
def me(v:Int)(n d:Nat):(if v < 0 then max (v+(n:Int)) 0 else min v (n:Int))=((yS n d (some v):Nat):Int):=by
 show(if v < 0 then max (v+(n:Int)) 0 else min v (n:Int))=(((if v < 0 then (v+(n:Int)).toNat else min v.toNat n):Nat):Int)
 by_cases hv:v < 0
 ·simp only[if_pos hv];omega
 ·simp only[if_neg hv];omega
def lA(lo hi:Option Int)(n:Nat):Builtin.Slice.sliceAdjust lo hi 1 (n:Int)=(((yS n 0 lo:Nat):Int),((yS n n hi:Nat):Int)):=by
 have h1:¬((1:Int) < 0):=by omega
 unfold Builtin.Slice.sliceAdjust
 simp only[h1,Jd]
 refine Ig ?_ ?_
 ·cases lo with
  |none=>rfl
  |some v=>exact me v n 0
 ·cases hi with
  |none=>rfl
  |some v=>exact me v n n
def lB(i j:Nat):Builtin.Slice.slicePlaces (i:Int) (j:Int) 1=j - i:=by
 unfold Builtin.Slice.slicePlaces
 have h1:(1:Int) > 0:=by omega
 simp only[h1,HH,Int.ediv_one]
 split<;>omega
def hU{v:Value}{o:Option Int}{Q:Option Int->Shared->Prop}(p:IsPart v o)(h:Q o s):wpAny (model prog w) A (Builtin.Slice.slicePartIndex v) Q E s:=by
 cases p with
 |none=>exact slicePart_none h
 |int i t=>exact slicePart_int h
def cL{sl:Addr}{vl vu:Value}{lo hi:Option Int}{n:Nat}{Q:Int×Int×Nat->Shared->Prop}(hs:s.heap.IsSliceOf sl vl vu .none)(pl:IsPart vl lo)(pu:IsPart vu hi)
  (h:Q (((yS n 0 lo:Nat):Int),1,yS n n hi - yS n 0 lo) s):wpAny (model prog w) A (Builtin.Slice.sliceApplied (.ref sl) (pure (n:Int))) Q E s:=by
 obtain⟨os,hos,hcs,hds⟩:=id hs
 unfold Builtin.Slice.sliceApplied Builtin.Slice.sliceFields
 refine FO (FO (Ge hos hds (x:=vl) rfl (FO (Ge hos hds (x:=vu) rfl (FO (Ge hos hds (x:=.none) rfl (FW ?_)))))))
 refine FO (slicePart_none ?_)
 show wpAny _ _ (if ((1:Int) == 0)=true then _ else _) _ _ s
 rw[if_neg (by decide)]
 refine FO (hU pl (FO (hU pu (FO (FW ?_)))))
 show wpAny _ _ (match Builtin.Slice.sliceAdjust lo hi 1 (n:Int)with|(lo,hi)=>pure (lo,(1:Int),Builtin.Slice.slicePlaces lo hi 1)) _ _ s
 rw[lA lo hi n]
 show wpAny _ _ (pure (((yS n 0 lo:Nat):Int),(1:Int),Builtin.Slice.slicePlaces ((yS n 0 lo:Nat):Int) ((yS n n hi:Nat):Int) 1)) _ _ s
 rw[lB]
 exact FW h
def ol(xs:Vw)(i k:Nat):((List.range k).filterMap fun(m:Nat)=>xs[((i:Int)+(m:Int) * 1).toNat]?).toArray=((xs.toList.drop i).take k).toArray:=by
 have e:(fun(m:Nat)=>xs[((i:Int)+(m:Int) * 1).toNat]?)=fun m=>xs[i+m]?:=by
  funext m
  have:((i:Int)+(m:Int) * 1).toNat=i+m:=by omega
  rw[this]
 rw[e]
 have:=pick_run xs i k
 rw[List.filterMap_map]at this
 have e2:((fun x=>xs[x]?) ∘ fun x=>i+x)=fun m=>xs[i+m]?:=rfl
 rw[e2]at this
 rw[this]
def fE{t sl:Addr}{items:Vw}{vl vu:Value}{lo hi:Option Int}{Q:Vq}(ht:IsTup s.heap t items)(hs:s.heap.IsSliceOf sl vl vu .none)(pl:IsPart vl lo)(pu:IsPart vu hi)
  (hw:¬(yS items.size 0 lo=0/\yS items.size items.size hi=items.size))
  (h:Q (.ref s.heap.objs.size) { s with heap:=s.heap.push { cls:=.type "tuple",data:=.seq ((items.toList.drop (yS items.size 0 lo)).take (yS items.size items.size hi - yS items.size 0 lo)).toArray } })
  (hsz:items.size<=sizeLine):wpAny (model prog w) A (getItem (.ref t) (.ref sl)) Q E s:=by
 have BG:sizeOk (.seq ((items.toList.drop (yS items.size 0 lo)).take (yS items.size items.size hi - yS items.size 0 lo)).toArray):=by
  show((items.toList.drop (yS items.size 0 lo)).take (yS items.size items.size hi - yS items.size 0 lo)).toArray.size<=sizeLine
  rw[FY,GS,GU,IL]
  omega
 have hj:yS items.size items.size hi<=items.size:=tM _ _ (FQ _) hi
 obtain⟨os,hos,hcs,hds⟩:=id hs
 have DM:s.TypeIs (.ref sl) "slice":=⟨os,hos,hcs⟩
 unfold getItem
 try with_reducible refine HL ?_
 first|refine FO (FW ?_)|skip
 refine FO (wpAny_sequenceKey ht.typeIs (by decide) ?_)
 refine FO (Gs (name:=Str.ofString "__getitem__") ht.typeIs Gn
  (GV Gn ht.typeIs entry_tuple_getitem ?_ (args_tuple_getitem _ _)))
 show wpAny _ _ (Builtin.Tuple.tupleItemsOf (.ref t) >>= _) _ _ s
 refine FO (tupleItemsOf_ ht ?_)
 refine FO (wpAny_typeOf DM ?_)
 rw[if_pos (by decide)]
 refine FO (cL hs pl pu ?_)
 have hno:¬((((yS items.size 0 lo:Nat):Int) == 0&&(1:Int) == 1&&(yS items.size items.size hi - yS items.size 0 lo) == items.size)=true):=by
  intro q
  rw[Iq,Iq]at q
  have q1:((yS items.size 0 lo:Nat):Int)=0:=eq_of_beq q.1.1
  have q2:yS items.size items.size hi - yS items.size 0 lo=items.size:=eq_of_beq q.2
  exact hw ⟨by omega,by omega⟩
 show wpAny _ _ (if (((yS items.size 0 lo:Nat):Int) == 0&&(1:Int) == 1&&(yS items.size items.size hi - yS items.size 0 lo) == items.size)=true then _ else _) _ _ s
 rw[if_neg hno,ol]
 first
  |exact FO (m:=Builtin.Tuple.tupleExact _) (GL (FW ⟨_,rfl,FW h⟩) BG)
  |exact FO (m:=Builtin.Tuple.tupleExact _) (GL (FO (FW (FW ⟨_,rfl,FW h⟩))) BG)
  |exact FO (FO (m:=Builtin.Tuple.tupleExact _) (GL (FW (FW ⟨_,rfl,FW h⟩)) BG))
  |exact FO (FO (m:=Builtin.Tuple.tupleExact _) (GL (FW ⟨_,rfl,FW h⟩) BG))
end
end HT
namespace L2
open PySem PySem.Spec PyProof.Rows
abbrev TO:=St->Hp->(Option Int->Hp->Prop)->Prop
def PO(X:Cx)(e:Option Expr)(t:TO):Prop:=
 ∀(pins:Va) (s:Shared) (σ:St) (H:Hp) (Q:Option Int->Hp->Prop),Inv X pins σ H s->t σ H Q->
  wpAny (model X.prog X.w) X.A (evalPart e X.env) (fun u s'=>∃o H',Inv X pins σ H' s'/\IsPart u o/\Q o H') X.xe s
noncomputable def qU:TO:=fun _ H Q=>Q none H
noncomputable def vF(t:TE):TO:=fun σ H Q=>t σ H fun x H1=>∃i,x = .int i/\Q (some i) H1
section
variable {X:Cx} {e:Expr} {te:TE} {lo hi:Option Expr} {tl th:TO} {pos p2:Pos}
def qV:PO X none qU:=by
 intro pins s σ H Q I h
 rw[evalPart_none]
 exact FW ⟨none,H,I,.none,h⟩
def qW(h:PE X e te):PO X (some e) (vF te):=by
 intro pins s σ H Q I hw
 rw[evalPart_some]
 refine yK (h pins s σ H _ I hw) fun u s1 ⟨x,H1,I1,r1,q1⟩=>?_
 obtain⟨i,rfl,q⟩:=q1
 obtain⟨t,rfl⟩:=r1
 exact⟨some i,H1,I1,.int i t,q⟩
def uY(X:Cx)(r:V->Option Int->Option Int->Hp->VK->Prop):Prop:=
 ∀(pins:Va) (s:Shared) (σ:St) (H:Hp) (x:V) (v vl vu:Value) (lo hi:Option Int) (sl:Addr) (Q:VK),Inv X pins σ H s->RelV x v->s.heap.IsSliceOf sl vl vu .none->IsPart vl lo->IsPart vu hi->r x lo hi H Q->
  ∃T id,typeLookup (.type T) "__getitem__" = pure (some (.builtin id))/\s.TypeIs v T/\wpAny (model X.prog X.w) X.A (getItem v (.ref sl)) (EP X pins σ Q) X.xe s
def yo(r:V->Option Int->Option Int->Hp->VK->Prop)(te:TE)(tl th:TO):TE:=fun σ H Q=>te σ H fun x H1=>tl σ H1 fun l H2=>th σ H2 fun u H3=>r x l u H3 Q
def om{r:V->Option Int->Option Int->Hp->VK->Prop}(hr:uY X r)(he:PE X e te)(hl:PO X lo tl)(hu:PO X hi th):PE X (.Subscript e (.Slice lo hi none p2) pos) (yo r te tl th):=by
 intro pins s σ H Q I h
 refine Subscript_ (yK (he pins s σ H _ I h) fun v s1 ⟨x,H1,I1,r1,q1⟩=>?_)
 refine wpAny_Slice (yK (hl pins s1 σ H1 _ I1 q1) fun vl s2 ⟨l,H2,I2,pl,q2⟩=>yK (hu pins s2 σ H2 _ I2 q2) fun vu s3 ⟨u,H3,I3,pu,q3⟩=>?_)
 rw[evalPart_none]
 refine FW ?_
 have I4:Inv X pins σ H3 { s3 with heap:=s3.heap.push { cls:=.type "slice",data:=.fields #[vl,vu,.none] } }:=I3.kept (t':=s3.toks) fun b ob q=>FP _ q
 obtain⟨T,id,hT,ht,hg⟩:=hr pins { s3 with heap:=s3.heap.push { cls:=.type "slice",data:=.fields #[vl,vu,.none] } } σ H3 x v vl vu l u s3.heap.objs.size Q I4 r1 (Heap.IsSliceOf.new ..) pl pu q3
 show wpAny (model X.prog X.w) X.A (subscriptTail e (.Slice lo hi none p2) v (.ref s3.heap.objs.size)) (EP X pins σ Q) X.xe { s3 with heap:=s3.heap.push { cls:=.type "slice",data:=.fields #[vl,vu,.none] } }
 exact tail_any (ops:=[.ref s3.heap.objs.size,v]) ht hT hg (by with_unfolding_all rfl)
noncomputable def hV(xs:List V)(lo hi:Option Int):List V:=(xs.drop (HT.yS xs.length 0 lo)).take (HT.yS xs.length xs.length hi - HT.yS xs.length 0 lo)
def gG(xs:List V)(lo hi:Option Int):(hV xs lo hi).length<=xs.length:=by
 unfold hV
 rw[GS,GU]
 omega
noncomputable def xu(K:Vo):V->Option Int->Option Int->Hp->VK->Prop:=fun x lo hi H Q=>∃a xs,x = .ref a/\SqT K H a xs/\
 ¬(HT.yS xs.length 0 lo=0/\HT.yS xs.length xs.length hi=xs.length)/\∀p,H p=none->Q (.ref p) (upd H p (.tup (hV xs lo hi)))
def tN:uY X (xu X.K):=by
 intro pins s σ H x v vl vu lo hi sl Q I rx hs pl pu h
 obtain⟨a,xs,rfl,hx,hw,q⟩:=h
 cases rx
 obtain⟨its,r,ht,hz⟩:=I.tuple hx
 have hlen:its.toArray.size=xs.length:=by rw[FY];exact r.length.symm
 refine⟨"tuple",_,Gn.lookup,ht.typeIs,?_⟩
 refine HT.fE ht hs pl pu (by rw[hlen];exact hw) ?_ (by rw[hlen];exact hz)
 rw[hlen]
 refine⟨.ref s.heap.objs.size,_,I.laid (t':=s.toks) (o:=.tup (hV xs lo hi)) (fun b ob q=>FP _ q) (FQ _) ?_,rfl,q _ (I.hok.fresh (FQ _))⟩
 exact⟨F6 (gG xs lo hi) hz,_,(r.drop (HT.yS xs.length 0 lo)).take (HT.yS xs.length xs.length hi - HT.yS xs.length 0 lo),zi.new _ _⟩
def vG(K:Vo):R2:=fun x y H Q=>∃a b xs ys,x = .ref a/\y = .ref b/\SqT K H a xs/\SqT K H b ys/\xs≠[]/\xs.length+ys.length<=sizeLine/\
 (ys=[]->Q (.ref a) H)/\(ys≠[]->∀p,H p=none->Q (.ref p) (upd H p (.tup (xs++ys))))
def Vals.Bb{xs:List V}{us:Vv}(r:Vals xs us):us=[]↔xs=[]:=by
 cases r with
 |nil=>simp
 |cons _ _=>simp
def qX:fX X (binaryOp .Add) (vG X.K):=by
 intro pins s σ H x y v u Q I rx ry h
 obtain⟨a,b,xs,ys,rfl,rfl,ha,hb,hx,hz,q1,q2⟩:=h
 cases rx
 cases ry
 obtain⟨its,r1,p1,_⟩:=I.tuple ha
 obtain⟨its2,r2,p2,_⟩:=I.tuple hb
 refine HT.qS p1 p2 (fun z=>hx (r1.Bb.mp z)) (fun z=>⟨.ref a,H,I,rfl,q1 (r2.Bb.mp z)⟩) (fun z=>?_) (by rw[<-r1.length,<-r2.length];exact hz)
 refine⟨.ref s.heap.objs.size,_,I.laid (t':=s.toks) (o:=.tup (xs++ys)) (fun b ob q=>FP _ q) (FQ _) ?_,rfl,q2 (fun w=>z (r2.Bb.mpr w)) _ (I.hok.fresh (FQ _))⟩
 exact⟨by rw[F3];exact hz,_,r1.append r2,zi.new _ _⟩
end
noncomputable def mf(n:Nat)(i:Int):Option Nat:=if 0<=i then (if i < n then some i.toNat else none) else if -(n:Int)<=i then some (i+n).toNat else none
noncomputable def zp{α:Type}(xs:List α)(i:Int):Option α:=(mf xs.length i).bind fun j=>xs[j]?
def mh{n:Nat}{i:Int}{j:Nat}(h:mf n i=some j):seqIndex? i n=some j/\j < n/\-(n:Int)<=i/\i < n:=by
 unfold mf at h
 by_cases h0:0<=i
 ·rw[if_pos h0]at h
  by_cases h1:i < n
  ·rw[if_pos h1]at h
   have e:i.toNat=j:=GH h
   exact⟨by rw[seqIndex_of h0 h1,e],by omega,by omega,h1⟩
  ·rw[if_neg h1]at h;cases h
 ·rw[if_neg h0]at h
  by_cases h1:-(n:Int)<=i
  ·rw[if_pos h1]at h
   have e:(i+n).toNat=j:=GH h
   exact⟨by rw[seqIndex_neg (by omega) h1,e],by omega,h1,by omega⟩
  ·rw[if_neg h1]at h;cases h
def jK{α:Type}{xs:List α}{i:Int}{v:α}(h:zp xs i=some v):∃j,seqIndex? i xs.length=some j/\xs[j]?=some v/\j < xs.length/\-(xs.length:Int)<=i/\i < xs.length:=by
 unfold zp at h
 cases e:mf xs.length i with
 |none=>rw[e]at h;cases h
 |some j=>
  rw[e]at h
  obtain⟨h1,h2,h3,h4⟩:=mh e
  exact⟨j,h1,h,h2,h3,h4⟩
def bq{α:Type}{xs:List α}{j:Nat}{v:α}(h:xs[j]?=some v):zp xs (j:Int)=some v:=by
 have hj:j < xs.length:=(Hi.mp h).1
 have e:mf xs.length (j:Int)=some j:=by
  unfold mf
  rw[if_pos (by omega),if_pos (by omega)];simp
 unfold zp;rw[e];exact h
def gX(b:Expr):Prop:=∀o i,subscripted b false o i=operate [o,i] (getItem o i)
def uZ(X:Cx)(r:R2):Prop:=
 ∀(value slice:Expr) (pins:Va) (s:Shared) (σ:St) (H:Hp) (x y:V) (v u:Value) (Q:VK),Inv X pins σ H s->RelV x v->RelV y u->r x y H Q->
  subscripted slice false v u=operate [v,u] (getItem v u)->wpAny (model X.prog X.w) X.A (subscriptTail value slice v u) (EP X pins σ Q) X.xe s
def vH(X:Cx)(id:String)(r:V->List V->Hp->VK->Prop):Prop:=
 ∀(pins:Va) (s:Shared) (σ:St) (H:Hp) (x:V) (xs:List V) (v:Value) (us:Vv) (Q:VK),Inv X pins σ H s->RelV x v->Vals xs us->r x xs H Q->
  wpAny (model X.prog X.w) X.A (call (.builtin id) (v::us)) (EP X pins σ Q) X.xe s
section
variable {X:Cx} {a b:Expr} {ta tb:TE} {pos:Pos}
def vI{r:R2}(hr:uZ X r)(ha:PE X a ta)(hb:PE X b tb)(hs:gX b):PE X (.Subscript a b pos) (vp r ta tb):=by
 intro pins s σ H Q I h
 exact Subscript_ (tw ha hb I h fun v u s2 x y H2 I2 rx ry q=>hr a b pins s2 σ H2 x y v u Q I2 rx ry q (hs _ _))
def xv(K:Vo):R2:=fun x y H Q=>∃p xs i v,x = .ref p/\y = .int i/\SqL K H p xs/\zp xs i=some v/\Q v H
def xx(K:Vo):R2:=fun x y H Q=>∃p xs i v,x = .ref p/\y = .int i/\SqT K H p xs/\zp xs i=some v/\Q v H
def xy:R2:=fun x y H Q=>∃z i c,x = .str z/\y = .int i/\z.length<=sizeLine/\zp z.cps.toList i=some c/\Q (.str ⟨#[c]⟩) H
def mi:uZ X (xv X.K):=by
 intro value slice pins s σ H x y v u Q I rx ry h hs
 obtain⟨p,xs,i,z,rfl,rfl,hq,he,q⟩:=h
 cases rx
 obtain⟨t,rfl⟩:=ry
 obtain⟨its,r,pl,hz⟩:=I.list hq
 obtain⟨j,h1,h2,h3,h4,h5⟩:=jK he
 obtain⟨w,ew,rw'⟩:=r.get h2
 have hl:=r.length
 have hn:=fY
 have fin:EP X pins σ Q w s:=⟨z,H,I,rw',q⟩
 by_cases h0:0<=i
 ·have hj:i.toNat=j:=by
   rw[seqIndex_of h0 h5]at h1
   exact GH h1
  exact item_listR pl.isList h0 (by omega) (by rw[hj];simpa using ew) fin hs
 ·have hj:(i+(its.toArray.size:Int)).toNat=j:=by
   rw[seqIndex_neg (by omega) h4]at h1
   rw[FY,<-hl]
   exact GH h1
  exact subscriptTail_builtinR (x:=w) pl.isList.typeIs slot_list_getitem.lookup
   (wpAny_getItem_list_neg (Q:=fun r s'=>r=w/\EP X pins σ Q r s') pl.isList (by omega) (by rw[FY]<;>omega) (by omega) (by rw[hj];simpa using ew) ⟨rfl,fin⟩) hs
def tO:uZ X (xx X.K):=by
 intro value slice pins s σ H x y v u Q I rx ry h hs
 obtain⟨p,xs,i,z,rfl,rfl,hq,he,q⟩:=h
 cases rx
 obtain⟨t,rfl⟩:=ry
 obtain⟨its,r,pl,hz⟩:=I.tuple hq
 obtain⟨j,h1,h2,h3,h4,h5⟩:=jK he
 obtain⟨w,ew,rw'⟩:=r.get h2
 have hl:=r.length
 have hn:=fY
 have fin:EP X pins σ Q w s:=⟨z,H,I,rw',q⟩
 exact subscriptTail_builtinR (x:=w) pl.typeIs slot_tuple_getitem.lookup
  (getItem_tuple (j:=j) (Q:=fun r s'=>r=w/\EP X pins σ Q r s') pl (by omega) (by omega) (by rw[FY,<-hl];exact h1) (by simpa using ew) ⟨rfl,fin⟩) hs
def tP:uZ X xy:=by
 intro value slice pins s σ H x y v u Q I rx ry h hs
 obtain⟨z,i,c,rfl,rfl,hz,he,q⟩:=h
 obtain⟨t,rfl⟩:=rx
 obtain⟨t',rfl⟩:=ry
 obtain⟨j,h1,h2,h3,h4,h5⟩:=jK he
 have hl:z.cps.toList.length=z.length:=by simp[Str.length]
 rw[hl]at h1 h4 h5
 have hn:=fY
 exact tail_any (typeIs_str s z t) slot_str_getitem.lookup (getItem_str (c:=c) (by
  have e1:decide (i < -(2 ^ 63:Int))=false:=GG (by omega)
  have e2:decide (i>=2 ^ 63)=false:=GG (by omega)
  rw[e1,e2,Bool.or_false]) (by rw[h1];simpa using h2) ⟨.str ⟨#[c]⟩,H,I.tok _,⟨_,rfl⟩,q⟩) hs
def lC(its:Vv)(n j:Nat)(u:Value):Obj.mapSeq (·.setIfInBounds j u) { cls:=.type "list",data:=.seq its.toArray n }={ cls:=.type "list",data:=.seq (its.set j u).toArray n }:=by
 simp[Obj.mapSeq]
theorem Inv.lst{pins:Va}{σ:St}{H:Hp}{s:Shared}{p:Addr}{xs:List V}(I:Inv X pins σ H s)(h:H p=some (.lst xs)) :
  ∃(its:Vv) (n:Nat),Vals xs its/\s.heap.get? p=some { cls:=.type "list",data:=.seq its.toArray n }/\xs.length<=sizeLine:=by
 obtain⟨z,its,n,r,e⟩:=I.hok p _ h
 exact⟨its,n,r,e,z⟩
def Inv.Cz{pins:Va}{σ:St}{H:Hp}{s:Shared}{p:Addr}{xs ys:List V}{its its':Vv}{n n':Nat}{f:Obj->Obj}(I:Inv X pins σ H s)(h:H p=some (.lst xs))
  (ho:s.heap.get? p=some { cls:=.type "list",data:=.seq its.toArray n }) (hf:f { cls:=.type "list",data:=.seq its.toArray n }={ cls:=.type "list",data:=.seq its'.toArray n' }) (r:Vals ys its') (hz:ys.length<=sizeLine) (t:Nat) :
  Inv X pins σ (upd H p (.lst ys)) { s with heap:=s.heap.update p f,toks:=t }:=by
 have e:(s.heap.update p f).get? p=some { cls:=.type "list",data:=.seq its'.toArray n' }:=by
  rw[Hz f ho (by rw[hf]<;>rfl),hf]
 refine I.write (x:=p) (e:=p) (by rw[h];trivial) (.inl rfl) (fun b u hb q=>(Ih _ _ (Ib hb)).trans q) ⟨_,e⟩ ?_
 exact⟨hz,its',n',r,e⟩
noncomputable def vJ:V->V->V->Hp->(Hp->Prop)->Prop:=fun o i v H Q=>∃p xs k j,o = .ref p/\i = .int k/\H p=some (.lst xs)/\mf xs.length k=some j/\Q (upd H p (.lst (xs.set j v)))
def oo:qH X vJ:=by
 intro pins s σ H o i v ov iv u Q I ro ri rv h
 obtain⟨p,xs,k,j,rfl,rfl,hp,hj,q⟩:=h
 cases ro
 obtain⟨t,rfl⟩:=ri
 obtain⟨its,n,r,ho,hz⟩:=I.lst hp
 obtain⟨h1,h2,h3,h4⟩:=mh hj
 have hl:=r.length
 have hn:=fY
 have I':Inv X pins σ (upd H p (.lst (xs.set j v))) { s with heap:=s.heap.update p (Obj.mapSeq (·.setIfInBounds j u)) }:=
  I.Cz hp ho (lC its n j u) (r.set rv j) (by rw[List.length_set];exact hz) s.toks
 by_cases h0:0<=k
 ·have hk:k.toNat=j:=by
   rw[seqIndex_of h0 h4]at h1
   exact GH h1
  exact PySem.W.ki_setAt ho h0 (by omega) (by rw[FY,<-hl];exact h4) (by rw[hk];exact⟨_,I',q⟩)
 ·have hk:(k+(its.toArray.size:Int)).toNat=j:=by
   rw[seqIndex_neg (by omega) h3]at h1
   rw[FY,<-hl]
   exact GH h1
  exact PySem.W.ki_setBack ho (by omega) (by rw[FY,<-hl];exact h3) (by omega) (by rw[hk];exact⟨_,I',q⟩)
def jL(lo hi:Option Int)(n:Nat):(sliceBounds lo hi none n).1=((HT.yS n 0 lo:Nat):Int)/\(sliceBounds lo hi none n).2.1=((HT.yS n n hi:Nat):Int)/\(sliceBounds lo hi none n).2.2=1:=by
 refine⟨?_,?_,rfl⟩
 ·cases lo with
  |none=>simp[sliceBounds,HT.yS]
  |some i=>
   simp only[sliceBounds,HT.yS,Option.getD_none,show(1:Int) > 0 by decide,HH]
   by_cases h:i < 0
   ·simp only[h,HH]<;>omega
   ·simp only[h,Jd]<;>omega
 ·cases hi with
  |none=>simp[sliceBounds,HT.yS]
  |some i=>
   simp only[sliceBounds,HT.yS,Option.getD_none,show(1:Int) > 0 by decide,HH]
   by_cases h:i < 0
   ·simp only[h,HH]<;>omega
   ·simp only[h,Jd]<;>omega
def iW(its:Vv)(lo hi:Option Int):slicePick its.toArray lo hi none=((its.drop (HT.yS its.length 0 lo)).take (HT.yS its.length its.length hi - HT.yS its.length 0 lo)).toArray:=by
 obtain⟨h1,h2,h3⟩:=jL lo hi its.toArray.size
 unfold slicePick
 rw[h1,h2,h3]
 simp only[sliceRange_one,pick_run,FY]<;>rfl
noncomputable def xz(K:Vo):V->Option Int->Option Int->Hp->VK->Prop:=fun x lo hi H Q=>∃a xs,x = .ref a/\SqL K H a xs/\∀p,H p=none->Q (.ref p) (upd H p (.lst (hV xs lo hi)))
def mj:uY X (xz X.K):=by
 intro pins s σ H x v vl vu lo hi sl Q I rx hs pl pu h
 obtain⟨a,xs,rfl,hx,q⟩:=h
 cases rx
 obtain⟨its,r,ht,hz⟩:=I.list hx
 have hlen:=r.length
 refine⟨"list",_,slot_list_getitem.lookup,ht.isList.typeIs,?_⟩
 refine wpAny_getItem_list_slice ht.isList hs pl pu .none (by simp) ?_ (by rw[FY]<;>omega)
 rw[iW,<-hlen]
 refine⟨.ref s.heap.objs.size,_,I.laid (t':=s.toks) (o:=.lst (hV xs lo hi)) (fun b ob q=>FP _ q) (FQ _) ?_,rfl,q _ (I.hok.fresh (FQ _))⟩
 exact⟨F6 (gG xs lo hi) hz,_,0,(r.drop (HT.yS xs.length 0 lo)).take (HT.yS xs.length xs.length hi - HT.yS xs.length 0 lo),F0 _ rfl⟩
def jM:fX X (compareOp .NotIn) (fun x y H Q=>∃i j,x = .str i/\y = .str j/\Q (.bl (!(!(Builtin.Str.occurrences j i 0 j.length 1).isEmpty))) H):=by
 intro pins s σ H x y v u Q I rx ry h
 obtain⟨i,j,rfl,rfl,q⟩:=h
 obtain⟨t,rfl⟩:=rx
 obtain⟨t',rfl⟩:=ry
 exact notIn_str ⟨.bl _,H,I,rfl,q⟩
def cV:eY X (.builtin "len") (fun xs H Q=>∃p ys,xs=[.ref p]/\(SqL X.K H p ys\/SqT X.K H p ys)/\Q (.int ys.length) H):=by
 intro pins s σ H xs us Q I r h
 obtain⟨p,ys,rfl,hq,q⟩:=h
 obtain⟨u,rfl,rx⟩:=fD r
 cases rx
 have hn:=fY
 rcases hq with hq|hq
 ·obtain⟨its,r',pl,hz⟩:=I.list hq
  have hlen:=r'.length
  exact Calls.call_len_list pl.isList (by simp only[FY]<;>omega) ⟨.int ys.length,H,I.tok _,⟨s.toks+1,by rw[FY,hlen]⟩,q⟩
 ·obtain⟨its,r',pl,hz⟩:=I.tuple hq
  have hlen:=r'.length
  exact len_tuple pl (by simp only[FY]<;>omega) ⟨.int ys.length,H,I.tok _,⟨s.toks+1,by rw[FY,hlen]⟩,q⟩
def jN:eY X (.builtin "len") (fun xs H Q=>∃z,xs=[.str z]/\z.length<=sizeLine/\Q (.int z.length) H):=by
 intro pins s σ H xs us Q I r h
 obtain⟨z,rfl,hz,q⟩:=h
 obtain⟨u,rfl,t,rfl⟩:=fD r
 have hn:=fY
 exact len_str (by omega) ⟨.int z.length,H,I.tok _,⟨_,rfl⟩,q⟩
def eZ:eY X (.type "tuple") (fun xs H Q=>∃p ys,xs=[.ref p]/\((SqL X.K H p ys/\∀l,H l=none->Q (.ref l) (upd H l (.tup ys)))\/(SqT X.K H p ys/\Q (.ref p) H))):=by
 intro pins s σ H xs us Q I r h
 obtain⟨p,ys,rfl,h⟩:=h
 obtain⟨u,rfl,rx⟩:=fD r
 cases rx
 rcases h with⟨hq,q⟩|⟨hq,q⟩
 ·obtain⟨its,r',pl,hz⟩:=I.list hq
  have hlen:=r'.length
  refine call_tuple_list pl.isList (fun h' kp=>?_) (by simp only[FY]<;>omega)
  have I1:Inv X pins σ H { s with heap:=h' }:=I.kept (t':=s.toks) kp
  have I2:Inv X pins σ (upd H h'.objs.size (.tup ys)) { s with heap:=h'.push { cls:=.type "tuple",data:=.seq its.toArray } }:=
   I1.laid (t':=s.toks) (fun b o e=>FP _ e) (FQ _) (show yY X.prog X.w _ _ _ (.tup ys)from ⟨hz,its,r',zi.new _ _⟩)
  exact⟨.ref h'.objs.size,_,I2,rfl,q _ (I1.hok.fresh (FQ _))⟩
 ·obtain⟨its,r',pl,hz⟩:=I.tuple hq
  exact call_tuple_same pl ⟨.ref p,H,I,rfl,q⟩
def wK(K:Vo)(T:String)(x:V)(H:Hp):Prop:=match x with
 | .str _=>T = "str"
 | .int _=>T = "int"
 | .ref p=>(T = "list"/\∃xs,SqL K H p xs)\/(T = "tuple"/\∃o,K.lookup p=some o/\o.cls = .type "tuple"/\o.dict=none) \/
   (T = "dict"/\((∃kvs,H p=some (.dK kvs))\/∃kvs,H p=some (.dT kvs)))\/(T = "set"/\∃S n,H p=some (.set S n))
 |_=>False
def oq{pins:Va}{σ:St}{H:Hp}{s:Shared}{T:String}{x:V}{v:Value}(I:Inv X pins σ H s)(r:RelV x v)(ty:wK X.K T x H) :
  s.TypeIs v T/\∀a,v = .ref a->∃ob,s.heap.get? a=some ob/\ob.dict=none:=by
 cases x with
 |str z=>
  obtain⟨t,rfl⟩:=r
  cases (show T = "str" from ty)
  exact⟨typeIs_str s z t,fun _ e=>nomatch e⟩
 |int i=>
  obtain⟨t,rfl⟩:=r
  cases (show T = "int" from ty)
  exact⟨typeIs_int s i t,fun _ e=>nomatch e⟩
 |ref p=>
  cases r
  rcases ty with⟨rfl,xs,hq⟩|⟨rfl,o,hk,hc,hd⟩|⟨rfl,hk⟩|⟨rfl,S,n,hk⟩
  ·obtain⟨its,_,pl,_⟩:=I.list hq
   refine⟨pl.isList.typeIs,fun a e=>?_⟩
   cases e
   obtain⟨o,n,e,c,hd,_⟩:=pl
   exact⟨o,e,hd⟩
  ·refine⟨⟨o,I.CT p o hk,hc⟩,fun a e=>?_⟩
   cases e
   exact⟨o,I.CT _ o hk,hd⟩
  ·have z:∃o,s.heap.get? p=some o/\o.ExactDict:=by
    rcases hk with⟨kvs,hk⟩|⟨kvs,hk⟩
    ·obtain⟨_,_,_,_,o,_,_,e,ex,_⟩:=I.hok p _ hk
     exact⟨o,e,ex⟩
    ·obtain⟨_,_,_,_,o,_,_,e,ex,_⟩:=I.hok p _ hk
     exact⟨o,e,ex⟩
   obtain⟨o,e,ex⟩:=z
   refine⟨⟨o,e,ex.1⟩,fun a e2=>?_⟩
   cases e2
   exact⟨o,e,ex.2.1⟩
  ·obtain⟨o,_,_,_,e,ex,_⟩:=I.hok p _ hk
   refine⟨⟨o,e,ex.1⟩,fun a e2=>?_⟩
   cases e2
   exact⟨o,e,ex.2.1⟩
 |_=>exact False.elim ty
def xA(K:Vo)(T:String)(r:V->List V->Hp->VK->Prop)(to:TE):TE:=fun σ H Q=>to σ H fun x H1=>wK K T x H1/\r x [] H1 Q
def yp(K:Vo)(T:String)(r:V->List V->Hp->VK->Prop)(to:TE)(t:TA):TE:=fun σ H Q=>to σ H fun x H1=>wK K T x H1/\t σ H1 fun xs H2=>r x xs H2 Q
variable {o e:Expr} {es:List Expr} {to:TE} {t:TA} {name:Str} {apos cpos:Pos} {T id:String} {r:V->List V->Hp->VK->Prop}
def tQ(pa:PlainAttrs T)(slot:Slot T name id)(hty:typeOf (.builtin id)=pure (.type "method_descriptor"))(hm:vH X id r)(ho:PE X o to)
  (hbase:attributeBase o name X.env (eval o X.env)=eval o X.env:=by rfl) (hline:(apos.endLine == cpos.line)=true:=by rfl):PE X (.Call (.Attribute o name apos) [] [] cpos) (xA X.K T r to):=by
 intro pins s σ H Q I h
 refine wpAny_Call_method0_late hbase hline (yK (ho pins s σ H _ I h) fun v s1 ⟨x,H1,I1,r1,ty,q1⟩=>?_)
 obtain⟨h1,h2⟩:=oq I1 r1 ty
 exact⟨T,id,pa,slot,hty,h1,h2,Calls.callWith_builtin rfl (PySem.evalArgs_none (hm pins s1 σ H1 x [] v [] Q I1 r1 .nil q1))⟩
def vK(pa:PlainAttrs T)(slot:Slot T name id)(hty:typeOf (.builtin id)=pure (.type "method_descriptor"))(hm:vH X id r)(ho:PE X o to)(ha:PA X (e::es) t)
  (hbase:attributeBase o name X.env (eval o X.env)=eval o X.env:=by rfl)
  (hfew:((backTo cpos (starEach (e::es) X.env)).all (fun x=>!x.1)&&(backToKw cpos (keywordEach [] X.env)).all (fun x=>x.1.isSome)
   && decide ((e::es).length+([]:List Keyword).length+(if ([]:List Keyword).isEmpty then 0 else 1) < 30))=true:=by rfl)
  (hline:(apos.endLine == cpos.line)=true:=by rfl) (hs:starEach (e::es) X.env=(false,eval e X.env)::starEach es X.env:=by rfl) (hplain:(backTo cpos (starEach es X.env)).any (·.1)=false:=by rfl) :
  PE X (.Call (.Attribute o name apos) (e::es) [] cpos) (yp X.K T r to t):=by
 intro pins s σ H Q I h
 refine wpAny_Call_method_late hbase hfew hline rfl (yK (ho pins s σ H _ I h) fun v s1 ⟨x,H1,I1,r1,ty,q1⟩=>?_)
 obtain⟨h1,h2⟩:=oq I1 r1 ty
 refine⟨T,id,pa,slot,hty,h1,h2,?_⟩
 have hA:=ha cpos pins s1 σ H1 _ I1 q1
 rw[hs]at hA ⊢
 refine Calls.callWith_builtin (by show(false || (backTo cpos (starEach es X.env)).any (·.1))=false;rw[hplain]<;>rfl) (Calls.evalArgs_plain ?_)
 exact yK hA fun us s2 ⟨vs,H2,I2,r2,q2⟩=>hm pins s2 σ H2 x vs v us Q I2 r1 r2 q2
end
def xB(X:Cx)(id:String)(r:V->List V->Hp->VK->Prop):Prop:=
 ∀(pins:Va) (s:Shared) (σ:St) (H:Hp) (x:V) (xs:List V) (v:Value) (us:Vv) (Q:VK),Inv X pins σ H s->RelV x v->Vals xs us->r x xs H Q->
  wpAny (model X.prog X.w) X.A (call (.builtin id) (v::us)) (EP X pins σ Q) X.xe s
theorem Vals.one:∀{x:V} {us:Vv},Vals [x] us->∃u,us=[u]/\RelV x u
 |_,_,.cons r .nil=>⟨_,rfl,r⟩
theorem Vals.zero:∀{us:Vv},Vals [] us->us=[]
 |_,.nil=>rfl
theorem Vals.dropLast{xs:List V}{us:Vv}(h:Vals xs us):Vals xs.dropLast us.dropLast:=by
 induction h with
 |nil=>exact .nil
 |cons r t ih=>
  cases t with
  |nil=>exact .nil
  |cons q t'=>exact .cons r ih
theorem Vals.eraseIdx:∀{xs:List V} {us:Vv} (i:Nat),Vals xs us->Vals (xs.eraseIdx i) (us.eraseIdx i)
 |_,_,_,.nil=>.nil
 |_,_,0,.cons _ t=>t
 |_,_,i+1,.cons r t=>.cons r (Vals.eraseIdx i t)
theorem Vals.reverse{xs:List V}{us:Vv}(h:Vals xs us):Vals xs.reverse us.reverse:=by
 induction h with
 |nil=>exact .nil
 |cons r t ih=>rw[Ii,Ii];exact Vals.append ih (.cons r .nil)
theorem Vals.rep{xs:List V}{us:Vv}(h:Vals xs us):∀k:Nat,Vals (List.replicate k xs).flatten (List.replicate k us).flatten
 |0=>.nil
 |k+1=>by
  rw[Gf,Gf,Hr,Hr]
  exact Vals.append h (Vals.rep h k)
def lD{α:Type}(l:List α):l.eraseIdx (l.length - 1)=l.dropLast:=by
 induction l with
 |nil=>rfl
 |cons a r ih=>
  cases r with
  |nil=>rfl
  |cons b r=>
   have e:(a::b::r).length - 1=((b::r).length - 1)+1:=by
    have h1:(a::b::r).length=r.length+2:=rfl
    have h2:(b::r).length=r.length+1:=rfl
    omega
   rw[e,List.eraseIdx_cons_succ,ih]
   all_goals rfl
theorem jh{α:Type}:∀(l:List α) (i:Nat),(l.eraseIdx i).length<=l.length
 |[],_=>FQ _
 |_::_,0=>Nat.le_succ _
 |_::r,i+1=>Nat.succ_le_succ (jh r i)
theorem fZ(its:Vv):∀(k:Nat) (acc:Vv),
  List.foldl (fun x1 x2=>x1++x2) acc.toArray (List.replicate k its.toArray)=(acc++(List.replicate k its).flatten).toArray
 |0,acc=>by simp
 |k+1,acc=>by
  have e:acc.toArray++its.toArray=(acc++its).toArray:=by simp
  have e2:(acc++its)++(List.replicate k its).flatten=acc++(List.replicate (k+1) its).flatten:=by
   rw[Gf,Hr,List.append_assoc]
  rw[<-e2,<-fZ its k (acc++its),<-e,Gf,List.foldl_cons]
section
variable {X:Cx} {pins:Va} {σ:St} {H:Hp} {s:Shared} {l b:Addr} {xs ys zs:List V}
def Inv.CA{its its':Vv}{n:Nat}{f:Array Value->Array Value}{t':Nat}(I:Inv X pins σ H s)(hH:H l=some (.lst xs))
  (e:s.heap.get? l=some { cls:=.type "list",data:=.seq its.toArray n }) (hf:f its.toArray=its'.toArray) (hv:Vals ys its') (hz:ys.length<=sizeLine) :
  Inv X pins σ (upd H l (.lst ys)) { s with heap:=s.heap.update l (Obj.mapSeq f),toks:=t' }:=by
 have q:=PySem.IsL.update e f
 rw[hf]at q
 refine I.write (x:=l) (e:=l) (by rw[hH];exact trivial) (.inl rfl) (fun b' u hb hu=>(Ih s.heap (Obj.mapSeq f) (Ib hb)).trans hu) ⟨_,q⟩ ?_
 exact⟨hz,its',_,hv,q⟩
def Inv.C7{its:Vv}{t':Nat}(I:Inv X pins σ H s)(hv:Vals ys its)(hz:ys.length<=sizeLine) :
  Inv X pins σ (upd H s.heap.objs.size (.lst ys)) { s with heap:=s.heap.push { cls:=.type "list",data:=.seq its.toArray },toks:=t' }:=
 I.laid (fun _ _ q=>FP _ q) (FQ _) ⟨hz,its,0,hv,F0 _ rfl⟩
theorem Inv.fresh(I:Inv X pins σ H s):H s.heap.objs.size=none:=I.hok.fresh (FQ _)
def Inv.BM(I:Inv X pins σ H s)(hH:H l=some (.lst xs)):xs.length<=sizeLine/\∃(its:Vv) (n:Nat),Vals xs its/\xs.length=its.length/\s.heap.get? l=some { cls:=.type "list",data:=.seq its.toArray n }:=by
 obtain⟨z,its,n,r,e⟩:=I.hok l _ hH
 exact⟨z,its,n,r,r.length,e⟩
def ot{n:Nat}(h:n<=sizeLine):Builtin.List.listTooLong n=false:=by
 unfold Builtin.List.listTooLong
 exact GG (by omega)
end
section
variable {X:Cx}
noncomputable def qY:V->List V->Hp->VK->Prop:=fun x vs H Q=>∃l xs y,x = .ref l/\vs=[y]/\H l=some (.lst xs)/\xs.length < sizeLine/\Q .non (upd H l (.lst (xs++[y])))
def mY:xB X "list.append" qY:=by
 intro pins s σ H x vs v us Q I rx rv h
 obtain⟨l,xs,y,rfl,rfl,hH,hz,q⟩:=h
 cases rx
 obtain⟨u,rfl,ru⟩:=rv.one
 obtain⟨z,its,n,r,hl,e⟩:=I.BM hH
 refine HE F.slot_list_append ⟨_,e,rfl⟩ F.entry_list_append (F.args_list_append_2 _ _) (PySem.list_append l its.toArray n u (by rw[FY];omega)) ⟨e,?_⟩
 refine⟨.non,_,I.CA (its':=its++[u]) hH e (by simp) (r.append (.cons ru .nil)) ?_,rfl,q⟩
 rw[F3,HA]
 omega
noncomputable def xC:V->List V->Hp->VK->Prop:=fun x vs H Q=>∃l xs y,x = .ref l/\vs=[]/\H l=some (.lst xs)/\xs[xs.length - 1]?=some y/\Q y (upd H l (.lst xs.dropLast))
def tR:xB X "list.pop" xC:=by
 intro pins s σ H x vs v us Q I rx rv h
 obtain⟨l,xs,y,rfl,rfl,hH,hy,q⟩:=h
 cases rx
 have CU:=rv.zero
 subst CU
 obtain⟨z,its,n,r,hl,e⟩:=I.BM hH
 obtain⟨u,hu,ru⟩:=r.get hy
 have hy':its.toArray[its.toArray.size - 1]?=some u:=by
  show its.toArray[its.length - 1]?=some u
  rw[<-Array.getElem?_toList,<-hl]
  exact hu
 refine HE F.slot_list_pop ⟨_,e,rfl⟩ F.entry_list_pop (F.args_list_pop_1 _) (MeetsSeq.list_pop_last l its.toArray n u hy' (by rw[FY];omega)) ⟨e,?_⟩
 refine⟨y,_,I.CA (its':=its.dropLast) hH e ?_ r.dropLast ?_,ru,q⟩
 ·show its.toArray.eraseIdxIfInBounds (its.toArray.size - 1)=its.dropLast.toArray
  rw[FY,Io,lD]
 ·rw[List.length_dropLast]
  omega
noncomputable def tS:V->List V->Hp->VK->Prop:=fun x vs H Q=>∃l xs i k y,x = .ref l/\vs=[.int i]/\H l=some (.lst xs)/\-(2 ^ 63)<=i/\i < 2 ^ 63/\seqIndex? i xs.length=some k/\xs[k]?=some y/\Q y (upd H l (.lst (xs.eraseIdx k)))
def ou:xB X "list.pop" tS:=by
 intro pins s σ H x vs v us Q I rx rv h
 obtain⟨l,xs,i,k,y,rfl,rfl,hH,h1,h2,hk,hy,q⟩:=h
 cases rx
 obtain⟨u,rfl,ru⟩:=rv.one
 obtain⟨t,rfl⟩:=ru
 obtain⟨z,its,n,r,hl,e⟩:=I.BM hH
 obtain⟨w,hw,rw'⟩:=r.get hy
 refine HE F.slot_list_pop ⟨_,e,rfl⟩ F.entry_list_pop (F.args_list_pop_2 _ _)
  (MeetsSeq.list_pop_at l its.toArray n i t k w (fitsIndex_both h1 h2) (by rw[FY,<-hl];exact hk) (by rw[<-Array.getElem?_toList];exact hw) (by rw[FY];omega)) ⟨e,?_⟩
 refine⟨y,_,I.CA (its':=its.eraseIdx k) hH e ?_ (r.eraseIdx k) ?_,rw',q⟩
 ·show its.toArray.eraseIdxIfInBounds k=(its.eraseIdx k).toArray
  rw[Io]
 ·have:=jh xs k
  omega
def xD:R2:=fun x y H Q=>∃l b xs zs,x = .ref l/\y = .ref b/\H l=some (.lst xs)/\H b=some (.lst zs)/\xs.length+zs.length<=sizeLine/\∀p,H p=none->Q (.ref p) (upd H p (.lst (xs++zs)))
def tT:fX X (binaryOp .Add) xD:=by
 intro pins s σ H x y v u Q I rx ry h
 obtain⟨l,b,xs,zs,rfl,rfl,hH,hB,hz,q⟩:=h
 cases rx
 cases ry
 obtain⟨z,its,n,r,hl,e⟩:=I.BM hH
 obtain⟨z2,its2,n2,r2,hl2,e2⟩:=I.BM hB
 refine PySem.P.add_list e e2 ?_ (by rw[FY,FY];omega)
 have ea:its.toArray++its2.toArray=(its++its2).toArray:=by simp
 rw[ea]
 exact⟨.ref _,_,I.C7 (t':=s.toks) (r.append r2) (by rw[F3];omega),rfl,q _ I.fresh⟩
def xE:R2:=fun x y H Q=>∃l k xs,x = .ref l/\y = .int k/\H l=some (.lst xs)/\-(2 ^ 63)<=k/\k < 2 ^ 63/\xs.length * k.toNat<=sizeLine/\
 ∀p,H p=none->Q (.ref p) (upd H p (.lst (List.replicate k.toNat xs).flatten))
def qZ{α:Type}(xs:List α)(k:Nat):(List.replicate k xs).flatten.length=k * xs.length:=by
 induction k with
 |zero=>simp
 |succ k ih=>rw[Gf,Hr,F3,ih,Nat.succ_mul,Nat.add_comm]
def tU:fX X (binaryOp .Mult) xE:=by
 intro pins s σ H x y v u Q I rx ry h
 obtain⟨l,k,xs,rfl,rfl,hH,h1,h2,hz,q⟩:=h
 cases rx
 obtain⟨t,rfl⟩:=ry
 obtain⟨z,its,n,r,hl,e⟩:=I.BM hH
 have hlen:its.toArray.size * k.toNat<=sizeLine:=by rw[FY,<-hl];exact hz
 have hcap:¬its.toArray.size * k.toNat > (2 ^ 63 - 1) / 8:=by
  have:(sizeLine:Nat)<=(2 ^ 63 - 1) / 8:=by decide
  omega
 have hfit:¬(!Builtin.List.listFitsIndex k)=true:=by
  rw[fitsIndex_both h1 h2]
  exact F8
 have C8:¬Builtin.List.listTooLong (its.toArray.size * k.toNat)=true:=by
  rw[ot hlen]
  exact F8
 have hnew:List.foldl (fun x1 x2=>x1++x2) #[] (List.replicate (if its.toArray.isEmpty=true then 0 else k.toNat) its.toArray)=(List.replicate k.toNat its).flatten.toArray:=by
  have f0:∀m:Nat,List.foldl (fun x1 x2=>x1++x2) #[] (List.replicate m its.toArray)=(List.replicate m its).flatten.toArray:=fun m=>by
   have:=fZ its m []
   rw[GI]at this
   exact this
  rw[f0]
  cases its with
  |nil=>simp
  |cons a r'=>rw[if_neg (by simp)]
 refine wpAny_binaryOp_repeat_ref (T:="list") (U:="int") (by decide) ⟨_,e,rfl⟩ (fun s'=>typeIs_int s' k t) noFill_list_mul F.fills_int_mul IE repeat_list F.slot_int_index.lookup
  (HE IE (typeIs_int s k t) F.entry_int_rmul (F.args_int_rmul_2 _ _) (int___rmul___int_list k t l its.toArray n)
   ⟨e,rfl,⟨_,e,rfl⟩,HE F.slot_list_mul ⟨_,e,rfl⟩ F.entry_list_mul (F.args_list_mul_2 _ _) (AutoListH.list___mul___list_int_3 l its.toArray n k t hfit hcap C8) ⟨e,?_⟩⟩)
 rw[hnew]
 exact⟨.ref _,_,I.C7 (t':=s.toks) (r.rep k.toNat) (by rw[qZ,Nat.mul_comm];exact hz),rfl,q _ I.fresh⟩
end
section
variable {κ:Type} [DecidableEq κ]
noncomputable def f_(kvs:List (κ×V))(k:κ):Option V:=(kvs.find? fun kv=>decide (kv.1=k)).map (·.2)
noncomputable def dP(kvs:List (κ×V))(k:κ)(v:V):List (κ×V):=
 if (kvs.any fun kv=>decide (kv.1=k))=true then kvs.map (fun kv=>if kv.1=k then (kv.1,v) else kv) else kvs++[(k,v)]
def zT{p:κ×V}{r:List (κ×V)}{k:κ}(e:p.1=k):f_ (p::r) k=some p.2:=by simp[f_,List.find?_cons,e]
def zU{p:κ×V}{r:List (κ×V)}{k:κ}(e:¬p.1=k):f_ (p::r) k=f_ r k:=by simp[f_,List.find?_cons,e]
theorem hW(k:κ):∀kvs:List (κ×V),(kvs.any fun kv=>decide (kv.1=k))=(f_ kvs k).isSome
 |[]=>rfl
 |p::r=>by
  rw[IZ]
  by_cases e:p.1=k
  ·simp only[zT e,decide_eq_true e,Bool.true_or,Option.isSome_some]
  ·rw[zU e,GG e,Bool.false_or];exact hW k r
def dQ(kvs:List (κ×V))(k:κ)(v:V):(dP kvs k v).length<=kvs.length+1:=by
 unfold dP
 split
 ·rw[FZ];omega
 ·rw[F3,F7,G4];omega
def RelO.zK{o:Option V}{u:Option Value}(r:RelO o u):o.isSome=u.isSome:=by
 cases o with
 |none=>cases u with
  |none=>rfl
  |some _=>exact(show False from r).elim
 |some _=>cases u with
  |none=>exact(show False from r).elim
  |some _=>rfl
def KV.val{kvs:List (κ×V)}{vs:List (κ×Value)}(r:KV kvs vs)(k:κ):RelO (f_ kvs k) (valueAt vs k):=by
 unfold KV at r
 induction r with
 |nil=>exact True.intro
 |@cons p q ps qs h t ih=>
  obtain⟨h1,h2⟩:=h
  by_cases e:p.1=k
  ·have e':q.1=k:=h1.symm.trans e
   have b:valueAt (q::qs) k=some q.2:=by simp[valueAt,List.find?_cons,e']
   rw[zT e,b];exact h2
  ·have e':¬q.1=k:=fun z=>e (h1.trans z)
   have b:valueAt (q::qs) k=valueAt qs k:=by simp[valueAt,List.find?_cons,e']
   rw[zU e,b];exact ih
theorem KV.any{kvs:List (κ×V)}{vs:List (κ×Value)}(r:KV kvs vs)(k:κ):(kvs.any fun kv=>decide (kv.1=k))=vs.any fun kv=>decide (kv.1=k):=by
 unfold KV at r
 induction r with
 |nil=>rfl
 |cons h t ih=>rw[IZ,IZ,ih,h.1]
def KV.repl{kvs:List (κ×V)}{vs:List (κ×Value)}(r:KV kvs vs)(k:κ){y:V}{u:Value}(ry:RelV y u) :
  KV (kvs.map fun kv=>if kv.1=k then (kv.1,y) else kv) (vs.map fun kv=>if kv.1=k then (kv.1,u) else kv):=by
 unfold KV at r ⊢
 induction r with
 |nil=>exact .nil
 |@cons p q ps qs h t ih=>
  rw[Gd,Gd]
  refine .cons ?_ ih
  obtain⟨h1,h2⟩:=h
  by_cases e:p.1=k
  ·rw[if_pos e,if_pos (h1.symm.trans e)];exact⟨h1,ry⟩
  ·rw[if_neg e,if_neg (fun z=>e (h1.trans z))];exact⟨h1,h2⟩
def KV.put{kvs:List (κ×V)}{vs:List (κ×Value)}(r:KV kvs vs)(k:κ){y:V}{u:Value}(ry:RelV y u):KV (dP kvs k y) (stored vs k u):=by
 unfold dP stored
 rw[r.any k]
 by_cases e:(vs.any fun kv=>decide (kv.1=k))=true
 ·rw[if_pos e,if_pos e];exact r.repl k ry
 ·rw[if_neg e,if_neg e];exact Paired.snoc r ⟨rfl,ry⟩
theorem KV.length{kvs:List (κ×V)}{vs:List (κ×Value)}(r:KV kvs vs):kvs.length=vs.length:=Paired.length r
end
def ji{P:Program}{w:World}{k:bt}{u:Value}(r:RelV (kV k) u):(a8 P w).is k u=true:=by
 cases k with
 |inl i=>obtain⟨t,e⟩:=(show ∃t,u=Value.int i t from r);subst e;exact kD P w i t
 |inr x=>obtain⟨t,e⟩:=(show ∃t,u=Value.str x t from r);subst e;exact kE P w x t
theorem jj{P:Program}{w:World}:∀{ks:List bt} {us:Vv},Vals (ks.map kV) us->ItemsAre (a8 P w) ks us
 |[],_,r=>by rw[HJ]at r;cases r;exact .nil
 |k::ks,_,r=>by
  rw[Gd]at r
  cases r with
  |cons h t=>exact .cons (ji h) (jj t)
noncomputable abbrev KT(H:Hp):List (List bt×V)->List (List bt×Addr×Value)->Prop:=Paired fun p q=>p.1=q.1/\H q.2.1=some (.tup (p.1.map kV))/\RelV p.2 q.2.2
def KT.val{H:Hp}{kvs:List (List bt×V)}{xs:List (List bt×Addr×Value)}(r:KT H kvs xs)(k:List bt):RelO (f_ kvs k) ((atKey xs k).map (·.2)):=by
 induction r with
 |nil=>exact True.intro
 |@cons p q ps qs h t ih=>
  obtain⟨h1,_,h2⟩:=h
  by_cases e:p.1=k
  ·have e':q.1=k:=h1.symm.trans e
   have b:atKey (q::qs) k=some q.2:=by simp[atKey,List.find?_cons,e']
   rw[zT e,b];exact h2
  ·have e':¬q.1=k:=fun z=>e (h1.trans z)
   have b:atKey (q::qs) k=atKey qs k:=by simp[atKey,List.find?_cons,e']
   rw[zU e,b];exact ih
def KT.repl{H:Hp}{kvs:List (List bt×V)}{xs:List (List bt×Addr×Value)}(r:KT H kvs xs)(k:List bt){y:V}{u:Value}(ry:RelV y u) :
  KT H (kvs.map fun kv=>if kv.1=k then (kv.1,y) else kv) (xs.map (putAt k u)):=by
 induction r with
 |nil=>exact .nil
 |@cons p q ps qs h t ih=>
  rw[Gd,Gd]
  refine .cons ?_ ih
  obtain⟨h1,h2,h3⟩:=h
  unfold putAt
  by_cases e:p.1=k
  ·rw[if_pos e,if_pos (h1.symm.trans e)];exact⟨h1,h2,ry⟩
  ·rw[if_neg e,if_neg (fun z=>e (h1.trans z))];exact⟨h1,h2,h3⟩
def KT.put{H:Hp}{kvs:List (List bt×V)}{xs:List (List bt×Addr×Value)}(r:KT H kvs xs)(k:List bt){b:Addr}{y:V}{u:Value}(hb:H b=some (.tup (k.map kV)))(ry:RelV y u) :
  KT H (dP kvs k y) (storedH xs k b u):=by
 have e:(kvs.any fun kv=>decide (kv.1=k))=(atKey xs k).isSome:=by
  rw[hW,(r.val k).zK,IY]
 unfold dP storedH
 rw[e]
 by_cases q:(atKey xs k).isSome=true
 ·rw[if_pos q,if_pos q];exact r.repl k ry
 ·rw[if_neg q,if_neg q];exact Paired.snoc r ⟨rfl,hb,ry⟩
def KT.keeps{H H':Hp}{kvs:List (List bt×V)}{xs:List (List bt×Addr×Value)}(r:KT H kvs xs)(ht:∀b ys,H b=some (.tup ys)->H' b=some (.tup ys)):KT H' kvs xs:=
 Paired.Cs r fun _ _ z=>⟨z.1,ht _ _ z.2.1,z.2.2⟩
section
variable {P:Program} {w:World} {H:Hp} {h:Heap} {a:Addr}
def sv{u:HO}(ok:z_ P w H h)(e:Rd H a u):yY P w H h a u:=e.ok ok
def jk{kvs:List (bt×V)}(ok:z_ P w H h)(e:Rd H a (.dK kvs)):kvs.length<=sizeLine/\(a == sysModules)=false/\∃vs,KV kvs vs/\h.DictOf (a8 P w) a vs:=
 show yY P w H h a (.dK kvs)from sv ok e
def sw{kvs:List (bt×V)}(ok:z_ P w H h)(e:H a=some (.dK kvs)):kvs.length<=sizeLine/\(a == sysModules)=false/\∃vs,KV kvs vs/\h.DictOf (a8 P w) a vs:=jk ok (.inl e)
def cW{ks:List bt}(ok:z_ P w H h)(e:H a=some (.tup (ks.map kV))):(tupleKind (a8 P w)).is h ks a:=by
 obtain⟨_,its,r,o,h1,_,h2,n,h3⟩:=(show yY P w H h a (.tup (ks.map kV))from ok a _ e)
 exact⟨o,its.toArray,n,h1,h2,h3,by simpa using jj r⟩
def kJ{kvs:List (List bt×V)}(ok:z_ P w H h)(e:Rd H a (.dT kvs)):kvs.length<=sizeLine/\(a == sysModules)=false/\
  ∃xs,KT H kvs xs/\h.DictOfH (tupleKind (a8 P w)) a xs:=by
 obtain⟨z,y,xs,r,o,es,ep,h1,h2,h3,h4,h5⟩:=(show yY P w H h a (.dT kvs)from sv ok e)
 refine⟨z,y,xs,r,o,es,ep,h1,h2,h3,h4,fun x hx=>?_,h5⟩
 have all:∀{l:List (List bt×V)} {m:List (List bt×Addr×Value)},KT H l m->∀x∈m,(tupleKind (a8 P w)).is h x.1 x.2.1:=by
  intro l m q
  induction q with
  |nil=>intro x hx;exact nomatch hx
  |@cons p q ps qs hq t ih=>
   intro x hx
   rcases F2.mp hx with e|hx
   ·subst e
    exact cW ok (by rw[<-hq.1];exact hq.2.1)
   ·exact ih x hx
 exact all r x hx
def vL{kvs:List (List bt×V)}(ok:z_ P w H h)(e:H a=some (.dT kvs)):kvs.length<=sizeLine/\(a == sysModules)=false/\
  ∃xs,KT H kvs xs/\h.DictOfH (tupleKind (a8 P w)) a xs:=kJ ok (.inl e)
end
def DGet(H:Hp)(a:Addr)(y:V)(r:Option V):Prop:=
 (∃kvs k,Rd H a (.dK kvs)/\y=kV k/\r=f_ kvs k)\/∃kvs k b,Rd H a (.dT kvs)/\y = .ref b/\H b=some (.tup (k.map kV))/\r=f_ kvs k
def BV(H:Hp)(a:Addr)(y v:V)(H':Hp):Prop:=
 (∃kvs k,H a=some (.dK kvs)/\y=kV k/\kvs.length < sizeLine/\H'=upd H a (.dK (dP kvs k v))) \/
 ∃kvs k b,H a=some (.dT kvs)/\y = .ref b/\H b=some (.tup (k.map kV))/\kvs.length < sizeLine/\H'=upd H a (.dT (dP kvs k v))
theorem DGet.k{H:Hp}{a:Addr}{kvs:List (bt×V)}{k:bt}(e:H a=some (.dK kvs)):DGet H a (kV k) (f_ kvs k):=.inl ⟨kvs,k,.inl e,rfl,rfl⟩
theorem BV.k{H:Hp}{a:Addr}{kvs:List (bt×V)}{k:bt}{v:V}(e:H a=some (.dK kvs))(hl:kvs.length < sizeLine):BV H a (kV k) v (upd H a (.dK (dP kvs k v))):=.inl ⟨kvs,k,e,rfl,hl,rfl⟩
section
variable {X:Cx} {pins:Va} {σ:St} {H:Hp} {s:Shared} {a:Addr} {y v:V} {u r:Value} {o:Option V} {A:Around} {E:Vq}
def Inv.big(I:Inv X pins σ H s):sysModules < s.heap.objs.size:=by
 have h:mainGlobals < s.heap.objs.size:=(I.mod.glob.keeps I.bk).lt
 exact IS (by decide) h
def mZ{Q:Vq}(hu:A.units+1 < cLine)(I:Inv X pins σ H s)(g:DGet H a y (some v))(ry:RelV y u)(h:∀w' s',Inv X pins σ H s'->RelV v w'->Q w' s') :
  wpAny (model X.prog X.w) A (getItem (.ref a) u) Q E s:=by
 rcases g with⟨kvs,k,e,ey,l⟩|⟨kvs,k,b,e,ey,eb,l⟩
 ·subst ey
  obtain⟨z,hd,vs,rel,dd⟩:=jk I.hok e
  obtain⟨w',hw,rw'⟩:=RelO.some_of (v:=v) (o:=valueAt vs k) (by rw[l];exact rel.val k)
  exact wpAny_getItem_of (ji ry) dd.mapOf hw (h w' _ (I.tok _) rw')
 ·subst ey
  cases (show u=Value.ref b from ry)
  obtain⟨z,hd,xs,rel,dd⟩:=kJ I.hok e
  obtain⟨w',hw,rw'⟩:=RelO.some_of (v:=v) (o:=(atKey xs k).map (·.2)) (by rw[l];exact rel.val k)
  obtain⟨p,hp,hp2⟩:=G7.mp hw
  refine wpAny_getItem_heap (HR hu) (cW I.hok eb) dd hp ?_
  rw[hp2]
  exact h w' _ (I.tok _) rw'
def vM{Q:Vq}(hu:A.units+1 < cLine)(I:Inv X pins σ H s)(g:DGet H a y o)(ry:RelV y u)(h:∀s',Inv X pins σ H s'->Q (.bool o.isSome) s') :
  wpAny (model X.prog X.w) A (compareOp .In u (.ref a)) Q E s:=by
 rcases g with⟨kvs,k,e,ey,l⟩|⟨kvs,k,b,e,ey,eb,l⟩
 ·subst ey
  obtain⟨z,hd,vs,rel,dd⟩:=jk I.hok e
  refine wpAny_in_of (ji ry) hd dd.mapOf ?_
  rw[<-(rel.val k).zK,<-l]
  exact h _ (I.tok _)
 ·subst ey
  cases (show u=Value.ref b from ry)
  obtain⟨z,hd,xs,rel,dd⟩:=kJ I.hok e
  refine wpAny_in_heap (HR hu) (cW I.hok eb) hd dd ?_
  have q:=(rel.val k).zK
  rw[IY]at q
  rw[<-q,<-l]
  exact h _ (I.tok _)
def ml{Q:Vq}(hu:A.units+1 < cLine)(I:Inv X pins σ H s)(g:DGet H a y o)(ry:RelV y u)(h:∀s',Inv X pins σ H s'->Q (.bool (!o.isSome)) s') :
  wpAny (model X.prog X.w) A (compareOp .NotIn u (.ref a)) Q E s:=by
 rcases g with⟨kvs,k,e,ey,l⟩|⟨kvs,k,b,e,ey,eb,l⟩
 ·subst ey
  obtain⟨z,hd,vs,rel,dd⟩:=jk I.hok e
  refine wpAny_notIn_of (ji ry) hd dd.mapOf ?_
  rw[<-(rel.val k).zK,<-l]
  exact h _ (I.tok _)
 ·subst ey
  cases (show u=Value.ref b from ry)
  obtain⟨z,hd,xs,rel,dd⟩:=kJ I.hok e
  refine wpAny_notIn_heap (HR hu) (cW I.hok eb) hd dd ?_
  have q:=(rel.val k).zK
  rw[IY]at q
  rw[<-q,<-l]
  exact h _ (I.tok _)
def jO{h':Heap}{t':Nat}{ob:HO}(I:Inv X pins σ H s)(mu:ve (H a))(hs:Heap.SameBut a s.heap h')(he:∃q,h'.get? a=some q)(new:yY X.prog X.w (upd H a ob) h' a ob) :
  Inv X pins σ (upd H a ob) { s with heap:=h',toks:=t' }:=
 I.write (x:=a) (e:=a) mu (.inl rfl) (fun b q hb z=>(hs.2 b hb).trans z) he new
def ow{P:Program}{w:World}{H':Hp}{h':Heap}{kvs:List (bt×V)}{vs:List (bt×Value)}(z:kvs.length<=sizeLine)(hd:(a == sysModules)=false)(rel:KV kvs vs)(dd:h'.DictOf (a8 P w) a vs) :
  yY P w H' h' a (.dK kvs):=⟨z,hd,vs,rel,dd⟩
def m4{H':Hp}{Q:Unit->Shared->Prop}(hu:A.units+1 < cLine)(I:Inv X pins σ H s)(g:BV H a y v H')(ry:RelV y u)(rv:RelV v r)(h:∀s',Inv X pins σ H' s'->Q () s') :
  wpAny (model X.prog X.w) A (setItem (.ref a) u r) Q E s:=by
 rcases g with⟨kvs,k,e,ey,l,eH⟩|⟨kvs,k,b,e,ey,eb,l,eH⟩
 ·subst ey eH
  obtain⟨z,hd,vs,rel,dd⟩:=sw I.hok e
  have hz:vs.length<=sizeLine:=by rw[<-rel.length];exact z
  have hl:(dP kvs k v).length<=sizeLine:=by have:=dQ kvs k v;omega
  refine wpAny_setItem_pairs (hsz:=hz) (ji ry) dd fun h' CB hs=>h _ ?_
  have he:∃q,h'.get? a=some q:=let ⟨q,_,_,hq,_⟩:=CB;⟨q,hq⟩
  exact jO I (by rw[e];exact True.intro) hs he (ow hl hd (rel.put k rv) CB)
 ·subst ey eH
  cases (show u=Value.ref b from ry)
  obtain⟨z,hd,xs,rel,dd⟩:=vL I.hok e
  have hz:xs.length<=sizeLine:=by rw[<-Paired.length rel];exact z
  have hl:(dP kvs k v).length<=sizeLine:=by have:=dQ kvs k v;omega
  refine wpAny_setItem_heap (hsz:=hz) (HR hu) (cW I.hok eb) dd fun h' CB hs=>h _ ?_
  obtain⟨q,es,ep,hq,h2,h3,h4,_,h5⟩:=CB
  refine jO I (by rw[e];exact True.intro) hs ⟨q,hq⟩ ⟨hl,hd,_,(rel.put k eb rv).keeps fun c ys ec=>?_,q,es,ep,hq,h2,h3,h4,h5⟩
  rw[ax (vd ec e (fun z=>nomatch z))]
  exact ec
end
section
variable {X:Cx} {pins:Va} {σ:St} {H:Hp} {s:Shared} {a:Addr} {kvs:List (bt×V)} {k:bt} {u:Value} {A:Around} {E:Vq}
def vN{Q:Vq}(I:Inv X pins σ H s)(e:Rd H a (.dK kvs))(h:∀t s',Inv X pins σ H s'->Q (.int kvs.length t) s'):wpAny (model X.prog X.w) A (call (.builtin "len") [.ref a]) Q E s:=by
 obtain⟨z,hd,vs,rel,dd⟩:=jk I.hok e
 refine call_len_dict hd dd (by rw[<-rel.length];rw[sizeLine_eq]at z;omega) ?_
 rw[<-rel.length]
 exact h _ _ (I.tok _)
end
def kK{X:Cx}{pins:Va}{σ:St}{H:Hp}{s:Shared}{a:Addr}{y:V}{o:Option V}(I:Inv X pins σ H s)(g:DGet H a y o):s.TypeIs (.ref a) "dict":=by
 rcases g with⟨kvs,k,e,_,_⟩|⟨kvs,k,b,e,_,_,_⟩
 ·obtain⟨_,_,vs,_,dd⟩:=jk I.hok e
  exact dd.typeIs
 ·obtain⟨_,_,xs,_,dd⟩:=kJ I.hok e
  exact dd.typeIs
def ox{P:Program}{w:World}{H:Hp}(h:Heap)(hb:sysModules < h.objs.size):yY P w H (h.push { cls:=.type "dict",data:=.dict #[] }) h.objs.size (.dK []):=
 ⟨Gv _,IJ.mpr (Ib (Ga hb)),[],.nil,Heap.DictOf.new h⟩
noncomputable def jP:List (TE×TE)->St->Hp->(List (V×V)->Hp->Prop)->Prop
 |[],_,H,Q=>Q [] H
 |(tk,tv)::r,σ,H,Q=>tk σ H fun x H1=>tv σ H1 fun y H2=>jP r σ H2 fun ps H3=>Q ((x,y)::ps) H3
noncomputable abbrev VV:List (V×V)->List (Value×Value)->Prop:=Paired fun p q=>RelV p.1 q.1/\RelV p.2 q.2
def vO(X:Cx)(pos:Pos)(keys:List (Option Expr))(values:List Expr)(AR:List (TE×TE)):Prop:=
 ∀(pins:Va) (s:Shared) (σ:St) (H:Hp) (Q:List (V×V)->Hp->Prop),Inv X pins σ H s->jP AR σ H Q->
  wpAny (model X.prog X.w) X.A (evalPairs (pairTrees keys values X.env pos)) (fun vs s'=>∃ps H',Inv X pins σ H' s'/\VV ps vs/\Q ps H') X.xe s
def q_{X:Cx}{pos:Pos}:vO X pos [] [] []:=fun pins s σ H Q I h=>pairTrees_nil_walk ⟨[],H,I,.nil,h⟩
def oy{X:Cx}{pos:Pos}{k v:Expr}{ks:List (Option Expr)}{vs:List Expr}{tk tv:TE}{AR:List (TE×TE)}(hk:PE X k tk)(hv:PE X v tv)(hr:vO X pos ks vs AR) :
  vO X pos (some k::ks) (v::vs) ((tk,tv)::AR):=fun pins s σ H Q I h=>
 pairTrees_cons_walk (yK (hk pins s σ H _ I h) fun u s1 ⟨x,H1,I1,rx,q1⟩=>yK (hv pins s1 σ H1 _ I1 q1) fun w2 s2 ⟨y,H2,I2,ry,q2⟩=>
  yK (hr pins s2 σ H2 _ I2 q2) fun ws s3 ⟨ps,H3,I3,rel,q3⟩=>⟨(x,y)::ps,H3,I3,.cons ⟨rx,ry⟩ rel,q3⟩)
noncomputable def gc(kvs more:List (bt×V)):List (bt×V):=more.foldl (fun acc kv=>dP acc kv.1 kv.2) kvs
def KV.merge:∀{more:List (bt×V)} {rs:List (bt×Value)} {kvs:List (bt×V)} {vs:List (bt×Value)},KV more rs->KV kvs vs->KV (gc kvs more) (merged vs rs):=by
 intro more rs kvs vs r
 unfold KV at r
 induction r generalizing kvs vs with
 |nil=>intro q;exact q
 |@cons p q ps qs h t ih=>
  intro r0
  have e:KV (dP kvs p.1 p.2) (stored vs q.1 q.2):=by
   have:=r0.put p.1 h.2
   rw[<-h.1];exact this
  exact ih e
theorem e7:∀(more kvs:List (bt×V)),(gc kvs more).length<=kvs.length+more.length
 |[],kvs=>by show kvs.length<=kvs.length+0;omega
 |p::r,kvs=>by
  have h1:=e7 r (dP kvs p.1 p.2)
  have h2:=dQ kvs p.1 p.2
  show(gc (dP kvs p.1 p.2) r).length<=_
  rw[F7];omega
theorem hZ{P:Program}{w:World}:∀{kvs:List (bt×V)} {ws:List (Value×Value)},VV (kvs.map fun kv=>(kV kv.1,kv.2)) ws->∃rs,Carries (a8 P w) ws rs/\KV kvs rs
 |[],_,r=>by rw[HJ]at r;cases r;exact⟨[],True.intro,.nil⟩
 |p::kvs,_,r=>by
  rw[Gd]at r
  cases r with
  |@cons a b as bs h t=>
   obtain⟨rs,c,q⟩:=hZ (P:=P) (w:=w) t
   obtain⟨b1,b2⟩:=b
   exact⟨(p.1,b2)::rs,⟨ji h.1,rfl,c⟩,.cons ⟨rfl,h.2⟩ q⟩
def vP(AR:List (TE×TE)):TE:=fun σ H Q=>∀p,H p=none->jP AR σ (upd H p (.dK [])) fun ps H2=>H2 p=some (.dK [])/\∃kvs:List (bt×V),ps=kvs.map (fun kv=>(kV kv.1,kv.2))/\kvs.length<=15/\Q (.ref p) (upd H2 p (.dK (gc [] kvs)))
def rd{X:Cx}{pos:Pos}{keys:List (Option Expr)}{values:List Expr}{AR:List (TE×TE)}(h:vO X pos keys values AR)(hall:keys.all (·.isSome)=true)(hl:keys.length=values.length)(h0:keys≠[])
  (DN:keys.length<=15):PE X (.Dict keys values pos) (vP AR):=by
 intro pins s σ H Q I q
 have hn:=I.hok.fresh (FQ s.heap.objs.size)
 have I1:=I.laid (a:=s.heap.objs.size) (o:=.dK []) (h':=s.heap.push { cls:=.type "dict",data:=.dict #[] }) (t':=s.toks) (fun _ _ q=>FP _ q) (FQ _) (ox s.heap I.big)
 refine wpAny_Dict_walk (knd:=a8 X.prog X.w) hall hl h0 DN (yK (h pins _ σ _ _ I1 (q _ hn)) fun ws s2 ⟨ps,H2,I2,rel,e,kvs,ep,lk,q2⟩=>?_)
 subst ep
 obtain⟨rs,c,rk⟩:=hZ (P:=X.prog) (w:=X.w) rel
 obtain⟨z,hd,vs0,r0,dd⟩:=sw I2.hok e
 cases r0
 refine⟨rs,c,dd,fun h' CB hs=>⟨.ref s.heap.objs.size,_,?_,rfl,q2⟩⟩
 have hz:(gc [] kvs).length<=sizeLine:=by
  have h1:=e7 kvs []
  rw[G4]at h1
  rw[sizeLine_eq];omega
 have he:∃q,h'.get? s.heap.objs.size=some q:=let ⟨q,_,_,hq,_⟩:=CB;⟨q,hq⟩
 exact jO I2 (by rw[e];exact True.intro) hs he (ow hz hd (rk.merge .nil) CB)
end L2
namespace Att
open PySem PySem.W PySem.Calls PyProof.Rows
def gU{P:Params}{h:Heap}:∀(ns:Vu) (vs:Vv),WellAll P h vs (ns.map WData.int)->IntsAre vs ns:=by
 intro ns
 induction ns with
 |nil=>
  intro vs w
  rw[HJ]at w
  cases w
  exact .nil
 |cons n ns ih=>
  intro vs w
  rw[Gd]at w
  cases w with
  |cons a b=>
   cases a
   exact .cons _ _ (ih _ b)
def m5{l:OpenLaw}{n:Nat}(hn:l.most=some n){P:Params}{h:Heap}{args:List WData}{vals:Vv}
  (hpre:l.row.toRowW.claim.pre args=true) (hwl:WellAll P h vals args) :
  ∃a vs ns,vals=[Value.ref a]/\args=[WData.list (ns.map WData.int)]/\h.get? a=some { cls:=.type "list",data:=.seq vs.toArray }/\IntsAre vs ns/\ns.length<=n:=by
 have hsh:WShape.hasAll [] args [.list .int]=true:=(pre_splitW hpre).1
 have hc:l.pre.holds [] { args:=args }=true:=(pre_splitW hpre).2
 obtain⟨d,r,rfl,h1,h2⟩:=hasAllW_cons hsh
 obtain rfl:=hasAllW_nil h2
 obtain⟨xs,rfl,h3⟩:=hasW_list h1
 obtain⟨ns,rfl⟩:=items_int h3
 have hlen:ns.length<=n:=by
  unfold OpenLaw.pre at hc
  have h4:(WTm.not (.lt (.lit (.int (n:Int))) (.len (.arg 0)))).holds [] { args:=[.list (ns.map .int)] }=true:=by
   have h4:=(holds_andW hc).1
   rw[hn]at h4
   exact h4
  have h5:=condW_of h4 (w_not (w_lt w_lit (w_len_list (w_arg rfl))))
  rw[FZ]at h5
  refine Nat.le_of_not_lt fun q=>?_
  have q':(n:Int) < ((ns.length:Nat):Int):=by omega
  first
   |(rw[decide_eq_true q']at h5;exact absurd h5 (by decide))
   |(simp at h5;omega)
 cases hwl with
 |cons w1 w2=>
  cases w2
  cases w1 with
  |list ho hall=>exact⟨_,_,ns,rfl,rfl,ho,gU ns _ hall,hlen⟩
def m6(l:OpenLaw)(args:List WData):l.row.toRowW.claim.post args (.bool true) args=true:=
 postW_of (r:=l.row.toRowW) (X:=(true == true))
  (show WShape.has [] (.bool true) .bool=true by first|rfl|decide|simp[WShape.has,WShape.arms,WShape.armsAll])
  (show(WTm.eq .res (.lit (.bool true))).value [] { args:=args,res:=some (.bool true),after:=args }=some (.bool (true == true))from w_eq_bool (w_res rfl) w_lit) rfl
def kL{l:OpenLaw}{n:Nat}{q:Program}{loose:Vs}{XP:(Vr)->Heap->Prop}{YP:World->Heap->Prop}{d:DefRec}
  (hn:l.most=some n) (hdf:d.params.defaults=[])
  (call:∀(w:World) (s₀ s₁:Shared) (mg mb:Vr) (fa:Addr) (o:Obj) (pm cd doc:Value) (a:Addr) (vs:Vv) (ns:Vu),
   Ground q loose [] XP w s₀ mg mb s₁.heap->YP w s₁.heap->
   s₁.heap.get? fa=some o->o.data = .func (docDef d.name d.params d.body d.scope pm cd doc)->s₁.heap.CodeRec cd d.name->mg d.name=some (.ref fa)->
   s₁.heap.get? a=some { cls:=.type "list",data:=.seq vs.toArray }->IntsAre vs ns->ns.length<=n->s₁.gens=#[]->
   codeAny (model l.prog w) callerA (.call (.ref fa) ⟨[.ref a],[]⟩) (fun r s'=>r = .ok (.ret (.bool true))/\OldK s₁.heap s'.heap/\s'.os=s₁.os/\AllBare s'.gens) s₁) :
  WalkO q loose XP YP l.row.toRowW d [] (fun f vs=>PySem.call f vs):=by
 intro w s₀ s₁ mg mb G Y fa o pm cd doc dV kV ho hd hcd hD hmg hg args vals as hpre hlay hrd hwl hlo
 obtain rfl:dV = .none:=Dflts.none hD hdf
 obtain rfl:kV = .none:=Dflts.noKw hD
 obtain⟨a,vs,ns,rfl,rfl,hobj,hints,hlen⟩:=m5 hn hpre hwl
 refine enter_call (codeAny_mono (call w s₀ s₁ mg mb fa o pm cd doc a vs ns G Y ho (fd_plain hd) hcd hmg hobj hints hlen hg) fun r s' hq=>?_)
 obtain⟨rfl,h2,h3,h4⟩:=hq
 exact⟨.inl ⟨.bool true,.bool true,[],rfl,fun _=>rfl,.bool true,m6 l _,fun _=>⟨List.Pairwise.nil,fun _ hm=>(nomatch hm)⟩⟩,h2,h3,h4⟩
end Att
namespace L2
open PySem PySem.Spec PyProof.Rows
theorem jm:∀{vs:Vv} {ns:Vu},IntsAre vs ns->Vals (ns.map V.int) vs
 |_,_,.nil=>.nil
 |_,_,.cons n t h=>.cons ⟨t,rfl⟩ (jm h)
def re(H:Hp):Prop:=∀b,H b=none\/∃o xs,H b=some (.frz o (.lst xs))
def oz{P:Program}{w:World}{K:Vo}{mg mb:Vr}{CX:qu}{k:Nat}{fa a:Addr}{fd:FuncData}{x:Str}{sp:Sp}{s₁:Shared}{vs:Vv}{ns:Vu}
  (KX:K.In s₁.heap) (hns:s₁.heap.Ns mainGlobals mg) (hb:s₁.heap.Ns builtinsNs mb) (E9:∀x:Str,x ≠ "__name__"->mb x=bootBuiltins x) (hlim:s₁.heap.NoLimit) (hg:s₁.gens=#[])
  (ha:s₁.heap.get? a=some { cls:=.type "list",data:=.seq vs.toArray }) (hi:IntsAre vs ns) (hl:ns.length<=sizeLine) (hr:Room k callerA)
  (F:∀base:Heap,K.In base->base.Ns mainGlobals mg->jJ P w K mg base CX k fa fd [x] sp) (hbind:∀(s:Shared) (u:Value),BindsTo s fd ⟨[u],[]⟩ [(x,u)])
  (Cn:∀H:Hp,re H->SqL K H a (ns.map V.int)->sp [.ref a] H (fun v _=>v = .bl true) fun _ _ _=>False)
  (DO:∀H e s',CX [] H s₁ (fun _ _ _=>False) e s'->False) :
  codeAny (model P w) callerA (.call (.ref fa) ⟨[.ref a],[]⟩) (fun r s'=>r = .ok (.ret (.bool true))/\OldK s₁.heap s'.heap/\s'.os=s₁.os/\AllBare s'.gens) s₁:=by
 have rv:=jm hi
 have DP:=hi.length
 -- from an abstract heap in which nothing but the script may be tracked
 have core:∀H:Hp,re H->SqL K H a (ns.map V.int)->z_ P w H s₁.heap->(∀b,H b≠none->b=a)->(H a≠none->K.lookup a=none)->
   codeAny (model P w) callerA (.call (.ref fa) ⟨[.ref a],[]⟩) (fun r s'=>r = .ok (.ret (.bool true))/\OldK s₁.heap s'.heap/\s'.os=s₁.os/\AllBare s'.gens) s₁:=by
  intro H hO hS hok hA hK
  have BH:∀{b:Addr} {o:Obj},s₁.heap.get? b=some o->H b=none->(jI s₁.heap H).get? b=some o:=fun e n=>nU e n
  have C6:∀{b:Addr} {o:Obj} {es:Array DictEntry} {ep:Nat},s₁.heap.get? b=some o->o.data = .dict es ep->H b=none:=fun{b o es ep} e d=>by
   cases q:H b with
   |none=>rfl
   |some u=>
    have e':b=a:=hA b (by rw[q];simp)
    subst e'
    rw[ha]at e;cases e
    have d':Data.seq vs.toArray _=Data.dict es ep:=d
    cases d'
  have Dr:∀{b:Addr} {m:Vr},s₁.heap.Ns b m->(jI s₁.heap H).Ns b m:=fun{b m} ⟨o,es,ep,e,d,r⟩=>⟨o,es,ep,BH e (C6 e d),d,r⟩
  have Ez:K.In (jI s₁.heap H):=fun b o e=>BH (KX b o e) (by
   cases q:H b with
   |none=>rfl
   |some u=>
    have e':b=a:=hA b (by rw[q];simp)
    subst e'
    rw[hK (by rw[q];simp)]at e;cases e)
  have hM:Mod K mg (jI s₁.heap H):=⟨Ez,Dr hns,⟨mb,Dr hb,E9⟩,let ⟨mc,h1,h2⟩:=hlim;⟨mc,Dr h1,h2⟩⟩
  have e0:qQ P w K mg (jI s₁.heap H) callerA [] s₁ H:=⟨rfl,hM,fun b o e=>qB e,Nat.le_of_eq (mQ _ _),trivial,fun b hb=>absurd (show b∈([]:List Addr)from hb) (by simp),hok,.of_eq hg⟩
  refine codeAny_mono ((F _ Ez (Dr hns)).run callerA [] s₁ H ⟨[.ref a],[]⟩ [.ref a] [.ref a] _ _ hr e0 (hbind s₁ (.ref a)) (.cons rfl .nil) (Cn H hO hS)) fun r s' h=>?_
  cases r with
  |error e=>exact(DO H e s' h).elim
  |ok fl=>
   cases fl with
   |next=>exact False.elim h
   |brk=>exact False.elim h
   |cont=>exact False.elim h
   |ret u=>
    obtain⟨v,H',os,bare,un,DQ,r',q⟩:=h
    have q':v = .bl true:=q
    subst q'
    obtain rfl:u=Value.bool true:=r'
    refine⟨rfl,OldK.of_keep fun b o e=>?_,os,bare⟩
    cases q:H b with
    |none=>exact un.keep b o e q (by intro z;exact absurd (show b∈([]:List Addr)from z) (by simp)) (by simp)
    |some u=>
     rcases hO b with z|⟨ob,xs,z⟩
     ·rw[q]at z;cases z
     ·have z2:=un.Ba b ob _ z
      obtain⟨e1,_⟩:=hok b _ z
      obtain⟨e2,_⟩:=DQ b _ z2
      rw[e]at e1;cases e1
      exact e2
 cases hk:K.lookup a with
 |some o=>
  -- the script is one of the module's own objects
  have e:=KX a o hk
  rw[ha]at e
  cases e
  refine core (fun _=>none) (fun _=>.inl rfl) (.inr ⟨_,vs.toArray,_,hk,rfl,rfl,rfl,by rw[FY,DP];exact hl,by simpa using rv⟩) (fun b u z=>by have z':(none:Option HO)=some u:=z;cases z') (fun b z=>absurd rfl z) fun z=>absurd rfl z
 |none=>
  refine core (fun b=>if b=a then some (.frz { cls:=.type "list",data:=.seq vs.toArray } (.lst (ns.map V.int))) else none) (fun b=>?_) (.inl (.inr ⟨{ cls:=.type "list",data:=.seq vs.toArray },if_pos rfl⟩)) (fun b u z=>?_) (fun b z=>?_) fun _=>hk
  ·by_cases hb:b=a
   ·exact .inr ⟨_,_,if_pos hb⟩
   ·exact .inl (if_neg hb)
  ·by_cases hb:b=a
   ·have z':=(if_pos hb).symm.trans z
    cases z'
    subst hb
    exact⟨ha,by rw[FZ];exact hl,vs,_,rv,ha⟩
   ·have z':=(if_neg hb).symm.trans z
    cases z'
  ·by_cases hb:b=a
   ·exact hb
   ·exact absurd (if_neg hb) z
def rf{l:PySem.W.OpenLaw}{n k:Nat}{q:Program}{loose:Vs}{XP:(Vr)->Heap->Prop}{YP:World->Heap->Prop}{d:DefRec}{K:Params->PySem.W.Frag}{CX:World->qu}{sp:World->Sp}{x:Str}
  (hn:l.most=some n) (hn2:n<=sizeLine) (hdf:d.params.defaults=[]) (hr:Room k callerA)
  (hY:∀(w:World) (h:Heap),YP w h->(K w.params).In h)
  (F:∀(w:World) (mg:Vr) (fa:Addr) (h:Heap),(K w.params).In h->h.Ns mainGlobals mg->mg d.name=some (.ref fa)->
   ∃fd:FuncData,(∀(s:Shared) (u:Value),BindsTo s fd ⟨[u],[]⟩ [(x,u)])/\
    ∀base:Heap,(K w.params).In base->base.Ns mainGlobals mg->jJ l.prog w (K w.params) mg base (CX w) k fa fd [x] (sp w))
  (Cn:∀(w:World) (H:Hp) (a:Addr) (ns:Vu),ns.length<=n->re H->SqL (K w.params) H a (ns.map V.int)->sp w [.ref a] H (fun v _=>v = .bl true) fun _ _ _=>False)
  (DO:∀(w:World) (H:Hp) (s:Shared) (e:Value) (s':Shared),CX w [] H s (fun _ _ _=>False) e s'->False) :
  PySem.W.WalkO q loose XP YP l.row.toRowW d [] (fun f vs=>PySem.call f vs):=by
 refine Att.kL hn hdf fun w s₀ s₁ mg mb fa o pm cd doc a vs ns G Y ho hd hcd hmg hobj hints hlen hg=>?_
 have KX:=hY w _ Y
 obtain⟨fd,hb,hF⟩:=F w mg fa _ KX G.T.g hmg
 exact oz KX G.T.g G.T.b G.T.builtins G.T.nolimit hg hobj hints (F6 hlen hn2) hr hF hb (fun H hO hS=>Cn w H a ns hlen hO hS) fun H e s'=>DO w H s₁ e s'
noncomputable def cx(s:Stmt):Arguments:=match s with
 | .FunctionDef _ a _ _ _ _ _ _ _ _=>a
 |_=>{ posonlyargs:=[],args:=[],vararg:=none,kwonlyargs:=[],kw_defaults:=[],kwarg:=none,defaults:=[] }
noncomputable def bA(s:Stmt):List Stmt:=match s with
 | .FunctionDef _ _ b _ _ _ _ _ _ _=>b
 |_=>[]
noncomputable def aH(s:Stmt):Scope:=match s with
 | .FunctionDef _ _ _ _ _ _ sc _ _ _=>sc
 |_=>{ kind:=.function,names:=[],isGenerator:=false,isCoroutine:=false }
noncomputable abbrev sx:qu:=fun _ _ _ _ _ _=>False
noncomputable abbrev E0:XK:=fun _ _ _=>False
def vQ{X:Cx}:lx sx X E0:=fun _ _ _ _ _ _ _ h=>h.elim
structure Co (K:Vo) (x qual:Str) (st:Stmt) (f:Addr) (fd:FuncData):Prop where
 ex:∃(oc:Value) (od:Option Addr) (kV doc pm:Value) (an:Option Addr) (cdv ct:Value) (osl:Array (Option Value)),
  fd=PySem.W.fnOf x qual (cx st) (bA st) (aH st) .none kV doc pm an cdv ct/\K.lookup f=some ⟨oc,od,.func fd,osl⟩/\PySem.W.codeIn K cdv qual=true
 kp:PySem.W.keepIn K (.ref f)=true
section
variable {P:Program} {w:World} {K:Vo} {mg:Vr} {base:Heap}
def Co.ok{x qual:Str}{st:Stmt}{f:Addr}{fd:FuncData}{N ps:Vs}{k:Nat}{sp:Sp}(F:Co K x qual st f fd)(S:eM N ps (aH st))(len:∀vs H Q E,sp vs H Q E->vs.length=ps.length)
  (hbody:∀(cdv:Value) (A:Around) (outer:List Env) (s:Shared) (H:Hp) (vs:List V) (Q:VK) (E:XK),Room k (A.deeper (envOfC qual (aH st) s.heap.objs.size f cdv))->sp vs H Q E->
   ∃t,Bw (ly sx P w K mg base N qual (aH st) f cdv A outer s H E).C5 (bA st) t/\t { nx:=fun _ H'=>Q .non H',rt:=Q } (dO N vs) H):jJ P w K mg base sx (k+1) f fd ps sp:=by
 obtain⟨oc,od,kV,doc,pm,an,cdv,ct,osl,rfl,lk,hcd⟩:=F.ex
 refine vE lk hcd S len fun A outer s H vs Q E hr Cn=>?_
 obtain⟨t,h,q⟩:=hbody cdv A outer s H vs Q E hr Cn
 exact⟨t,h.C5,q⟩
def Co.binds{x qual:Str}{st:Stmt}{f:Addr}{fd:FuncData}{ps:Vs}(F:Co K x qual st f fd)
  (h:∀(kV doc pm:Value) (an:Option Addr) (cdv ct:Value) (us:Vv),us.length=ps.length->bindArgs (PySem.W.fnOf x qual (cx st) (bA st) (aH st) .none kV doc pm an cdv ct) ⟨us,[]⟩=pure (ps.zip us)):Binds K fd ps []:=by
 obtain⟨oc,od,kV,doc,pm,an,cdv,ct,osl,rfl,lk,hcd⟩:=F.ex
 exact .all (h kV doc pm an cdv ct)
def jQ{x qual:Str}{st:Stmt}{f:Addr}{oc:Value}{od an:Option Addr}{osl:Array (Option Value)}{kV doc pm cdv ct:Value}(l:K.lookup f=some ⟨oc,od,.func (PySem.W.fnOf x qual (cx st) (bA st) (aH st) .none kV doc pm an cdv ct),osl⟩)
  (c:PySem.W.codeIn K cdv qual=true) (k:PySem.W.keepIn K (.ref f)=true):Co K x qual st f (PySem.W.fnOf x qual (cx st) (bA st) (aH st) .none kV doc pm an cdv ct):=⟨⟨oc,od,kV,doc,pm,an,cdv,ct,osl,rfl,l,c⟩,k⟩
end
def cM{n:Nat}(h:n<=1000):n < sizeLine:=HS h (by decide)
section
variable {X:Cx}
def m7:eY X (.builtin "len") (fun xs H Q=>∃a kvs,xs=[V.ref a]/\H a=some (.dK kvs)/\Q (.int kvs.length) H):=by
 intro pins s σ H xs us Q I r h
 obtain⟨a,kvs,rfl,ha,q⟩:=h
 obtain⟨u,rfl,ru⟩:=fD r
 cases ru
 exact vN I (.inl ha) fun t s' I'=>⟨.int kvs.length,H,I',⟨t,rfl⟩,q⟩
end
end L2
set_option maxHeartbeats 4000000
namespace L2
open PySem PySem.Spec PyProof.Rows
def jR{prog:Program}{w:World}{A:Around}{R:Result->Shared->Prop}{s:Shared}{elt target iter:Expr}{ifs:List Expr}{scope:Scope}{pos:Pos}{it acc:Value}{env:Env}(I:Nat->Shared->Prop)
  (turn:∀n s,I n s->wpAny (model prog w) A (pyNext it) (fun r s₁=>match r with
   |none=>R (.ok .next) s₁
   |some v=>wpAny (model prog w) A (letOwnedTupleGo target it v) (fun _ s₁'=>wpAny (model prog w) A (assign target env v) (fun _ s₂=>
     wpAny (model prog w) A (forIn ifs true fun c r=>if r=true then do let ok <-isTrue c env (eval c env);pure (ForInStep.yield ok) else pure (ForInStep.yield r)) (fun ok s₃=>
      if ok=true then wpAny (model prog w) A (eval elt env) (fun x s₄=>
       wpAny (model prog w) A (call (.builtin "list.append") [acc,x]) (fun _ s₅=>∃m,m < n/\I m s₅) (fun _ _=>False) s₄) (fun _ _=>False) s₃
      else ∃m,m < n/\I m s₃) (fun _ _=>False) s₂) (fun _ _=>False) s₁') (fun _ _=>False) s₁) (fun _ _=>False) s)
  (n:Nat) (h:I n s) :
  codeAny (model prog w) A (.compLoop (.ListComp elt [⟨target,iter,ifs,0⟩] scope pos) 0 it acc env) R s:=by
 refine codeAny_loop rfl I (fun n s hI=>?_) n h
 show wpAny _ A ((compTurn (.ListComp elt [⟨target,iter,ifs,0⟩] scope pos) 0 it acc env).onRaise (fun x=>do noteFrame x env;theTreesLotGoes x)) _ _ s
 refine wpAny_noted ?_
 rw[compTurn_list]
 refine FO (wpAny_standAt (FO (Hv (turn n s hI) (fun r s₁ h₁=>?_) fun _ _ h'=>h'.elim)))
 cases r with
 |none=>exact FW h₁
 |some v=>
  refine FO (Hv h₁ (fun _ s₁' h₁'=>?_) fun _ _ h'=>h'.elim)
  refine FO (Hv h₁' (fun _ s₂ h₂=>FO (Hv h₂ (fun ok s₃ h₃=>?_) fun _ _ h'=>h'.elim)) fun _ _ h'=>h'.elim)
  cases ok with
  |false=>exact FW ⟨rfl,h₃⟩
  |true=>
   exact FO (FO (Hv h₃ (fun x s₄ h₄=>FO (Hv h₄ (fun _ s₅ h₅=>FW (FW ⟨rfl,h₅⟩)) fun _ _ h'=>h'.elim)) fun _ _ h'=>h'.elim))
structure Bk where
 C:Addr
 s:Shared
 H:Hp
 fp:List Addr
 pn:Va
noncomputable def bO(env:Env)(fs:Vs):List (Str×Addr):=fs.map fun x=>(x,(env.cells.lookup x).getD 0)
noncomputable abbrev Cx.Aa(X:Cx)(N:Vs)(scope:Scope)(fs:Vs)(B:Bk):Cx:=
 { X with N:=N,s₀:=B.s,H₀:=B.H,env:=compEnvC scope (bO X.env fs) B.C X.env,outer:=X.stack,ex:=B.fp,fn:=fun _=>false,pn:=B.pn,xe:=fun _ _=>False }
noncomputable def bI(env:Env):List Str->Prop
 |[]=>True
 |x::r=>(∃c,env.cells.lookup x=some c)/\bI env r
theorem gH{env:Env}:∀{fs:Vs},bI env fs->∀{x:Str} {c:Addr},(bO env fs).lookup x=some c->env.cells.lookup x=some c
 |[],_,x,c,h=>by cases h
 |y::r,k,x,c,h=>by
  obtain⟨⟨d,hd⟩,k⟩:=k
  have h':List.lookup x ((y,(env.cells.lookup y).getD 0)::bO env r)=some c:=h
  rw[List.lookup_cons]at h'
  cases e:x == y with
  |true=>
   rw[e]at h'
   have e':x=y:=by simpa using e
   subst e'
   rw[hd]at h'
   rw[hd]
   exact h'
  |false=>
   rw[e]at h'
   exact gH k h'
noncomputable def jS(names:List (Str×NameKind))(cl:List (Str×Addr)):Bool:=names.all fun y=>(y.2 != .cell&&y.2 != .free) || (cl.lookup y.1).isSome
def oA{names:List (Str×NameKind)}{cl:List (Str×Addr)}{x:Str}{k:NameKind}(h:jS names cl=true)(e:names.lookup x=some k)(hk:k = .cell\/k = .free):∃c,cl.lookup x=some c:=by
 have hm:(x,k)∈names:=G6 e
 have q:=Gz.mp h _ hm
 have z:(cl.lookup x).isSome=true:=by
  rcases hk with rfl|rfl
  ·simpa using q
  ·simpa using q
 exact Option.isSome_iff_exists.mp z
noncomputable def zj(env:Env)(scope:Scope)(cl:List (Str×Addr)):List Str->Prop
 |[]=>True
 |x::r=>((env.scope.names.lookup x=some .cell\/env.scope.names.lookup x=some .free)/\((relabel scope env).names.lookup x=some .cell\/(relabel scope env).names.lookup x=some .free)/\cl.lookup x=env.cells.lookup x)/\zj env scope cl r
theorem zj.mem{env:Env}{scope:Scope}{cl:List (Str×Addr)}:∀{l:Vs},zj env scope cl l->∀x∈l,
  (env.scope.names.lookup x=some .cell\/env.scope.names.lookup x=some .free)/\((relabel scope env).names.lookup x=some .cell\/(relabel scope env).names.lookup x=some .free)/\cl.lookup x=env.cells.lookup x
 |[],_,x,h=>nomatch h
 |y::r,k,x,h=>by
  rcases F2.mp h with rfl|h
  ·exact k.1
  ·exact zj.mem k.2 x h
noncomputable def cN(own:Nat)(fr:List Nat)(σ:St):St:=List.replicate own none++fr.map fun j=>(σ[j]?).getD none
noncomputable abbrev gf(us:Vv):Obj:={ cls:=.type "list",data:=.seq us.toArray us.length }
def m8(us:Vv)(u:Value):({ cls:=.type "list",data:=.seq (us.toArray.push u) (us.length+1) }:Obj)=gf (us++[u]):=by
 show({ cls:=.type "list",data:=.seq (us.toArray.push u) (us.length+1) }:Obj)={ cls:=.type "list",data:=.seq (us++[u]).toArray (us++[u]).length }
 rw[F3,HA,List.push_toArray]
section
variable {X:Cx} {pins:Va} {σ:St} {H:Hp} {s:Shared}
def Inv.C9{D:Addr}{us:Vv}{n:Nat}{ys:List V}(I:Inv X pins σ H s)(f:dM X pins H D)(e:s.heap.get? D=some { cls:=.type "list",data:=.seq us.toArray n })(r:Vals ys us)(hz:ys.length<=sizeLine) :
  Inv X pins σ (upd H D (.lst ys)) s:=by
 obtain⟨f0,f1,f2,f3,f4,f5⟩:=f
 have nD:∀b u,H b=some u->b≠D:=fun b u q=>aN q f0
 have hok:z_ X.prog X.w (upd H D (.lst ys)) s.heap:=fun b u q=>by
  by_cases hb:b=D
  ·subst hb
   rw[aA]at q
   cases q
   exact⟨hz,us,n,r,e⟩
  ·rw[ax hb]at q
   exact(I.hok b u q).stay (fun _ _ _ z=>z) (fun c z=>by rw[ax (nD c _ z)];exact z) fun c xs z=>by rw[ax (nD c _ z)];exact z
 exact I.step (H':=upd H D (.lst ys)) (h':=s.heap) (g':=s.gens) (t':=s.toks) (d':=s.drawn) (ch:=[D])
  (fun b hb=>by
   have z:b=D:=by simpa using hb
   subst z
   exact⟨f3,f1,f4,f5⟩)
  (fun _ _ _ _ _ q _=>q) (fun _ o _ _ _ q _=>⟨o.slots,q⟩)
  (fun b o hb _ n=>by rw[ax (fun z=>hb (by simp[z]))];exact n)
  (fun _ o _ q=>⟨o,q⟩) (fun b xs q=>by rw[ax (nD b _ q)];exact q) (fun b o u q=>by rw[ax (nD b _ q)];exact q)
  (fun b ps q=>⟨#[],by rw[ax (nD b _ q),q];simp⟩) (fun _ q=>q) hok I.bare
def tV{N:Vs}{scope:Scope}{fs:Vs}{C:Addr}{fp:List Addr}(I:Inv X pins σ H s)(hkind:scope.kind = .function)(hC:s.heap.objs.size<=C)(hcl:bI X.env fs)
  (hhas:jS (relabel scope X.env).names (bO X.env fs)=true) (hf:∀b∈fp,dM X pins H b) (hlt:∀b∈fp,b < s.heap.objs.size):(X.Aa N scope fs ⟨C,s,H,fp,X.pn++pins⟩).Ok where
 mod:=I.ok.mod
 kind:=hkind
 glob:=I.ok.glob
 blt:=I.ok.blt
 above:=hC
 inj:=fun x y c h1 h2=>I.ok.inj x y c (gH hcl h1) (gH hcl h2)
 has:=fun x hx=>by
  rcases hx with e|e
  ·exact oA hhas e (.inl rfl)
  ·exact oA hhas e (.inr rfl)
 CS:=fun x c h=>by cases h
 hd:=I.ok.hd
 frames:=I.ok.frames
 stk:=.inl rfl
 DE:=fun b hb=>⟨Ga (F1 (hlt b hb) hC),fun x c e=>(hf b hb).2.2.2.2.1 x c (gH hcl e)⟩
 bs:=I.bs
 B_:=F6 I.ok.B_ I.sz
 BL:=fun b o e hb=>(hf b hb).2.2.2.1.elim (fun z=>I.ok.BL b o e z) fun z=>absurd (F1 (FU e) (F6 I.ok.B_ z)) (G9 _)
 BU:=fun b hb z=>(F2.mp (I.AA b z)).elim (hf b hb).2.1 (hf b hb).2.2.1
 AM:=I.stack
 Cu:=I.BF
def rg{N:Vs}{scope:Scope}{fs:Vs}{C D:Addr}{fp:List Addr}{own:Nat}{fr:List Nat}{h₁:Heap}{m0:Vr}{t':Nat}(I:Inv X pins σ H s)
  (ok:(X.Aa N scope fs ⟨C,s,H,fp,X.pn++pins⟩).Ok) (hC:s.heap.objs.size<=C) (hD:s.heap.objs.size<=D) (hDC:D≠C) (hcl:bI X.env fs)
  (old:∀b o,s.heap.get? b=some o->h₁.get? b=some o) (hns:h₁.Ns C m0) (hacc:h₁.get? D=some (gf [])) (hlen:N.length=own+fr.length) (hN:(N.drop own).map some=fr.map fun j=>X.N[j]?)
  (hF:zj X.env scope (bO X.env fs) (N.drop own)) :
  Inv (X.Aa N scope fs ⟨C,s,H,fp,X.pn++pins⟩) [(D,gf [])] (cN own fr σ) H { s with heap:=h₁,toks:=t' }:=by
 refine⟨ok,rfl,I.bare,Un.kept old,⟨m0,hns,fun i x v e1 e2 e3=>?_⟩,fun x c e=>?_,I.hok.fresh hC,fun x c e=>I.zR x c (gH hcl e),fun p hp=>?_,I.hok.kept old,?_⟩
 ·have e1:N[i]?=some x:=e1
  by_cases hi:i < own
  ·unfold cN at e2
   rw[GB (by rw[Gp];exact hi),G2,if_pos hi]at e2
   cases e2
  ·obtain⟨k,rfl⟩:∃k,i=own+k:=⟨i - own,by omega⟩
   have e1':(N.drop own)[k]?=some x:=by rw[HU];exact e1
   have q:=Gy (fun l=>l[k]?) hN
   simp only[F4,e1',Option.map_some]at q
   unfold cN at e2
   rw[GN (by rw[Gp];omega),Gp,Nat.add_sub_cancel_left,F4]at e2
   cases hj:fr[k]? with
   |none=>rw[hj]at e2;cases e2
   |some j=>
    rw[hj]at e2 q
    simp only[Option.map_some,Option.some.injEq]at e2 q
    have hσ:σ[j]?=some (some v):=by
     cases z:σ[j]? with
     |none=>rw[z]at e2;cases e2
     |some w=>rw[z]at e2;simp only[Option.getD_some]at e2;rw[e2]
    obtain⟨k1,k2,k3⟩:=hF.mem x (List.mem_of_getElem? e1')
    obtain⟨m,hn,hl⟩:=I.loc
    have vis:wF X.env.scope x:=by
     rcases k1 with z|z
     ·exact .inr (.inl z)
     ·exact .inr (.inr z)
    obtain⟨u,ru,l⟩:=hl j x v q.symm hσ vis
    rcases l with⟨hk,_⟩|⟨_,c,hc,o,ho,hd⟩
    ·have hk':X.env.scope.names.lookup x=some .local:=hk
     rcases k1 with z|z
     ·rw[z]at hk';cases hk'
     ·rw[z]at hk';cases hk'
    ·exact⟨u,ru,.inr ⟨k2,c,k3.trans hc,o,old _ _ ho,hd⟩⟩
 ·obtain⟨v,o,ho,hd⟩:=I.cell x c (gH hcl e)
  exact⟨v,o,old _ _ ho,hd⟩
 ·rcases Gh.mp hp with z|z
  ·obtain⟨e,n,ne,nf,d⟩:=I.pin p z
   exact⟨old _ _ e,n,Ga (F1 (FU e) hC),fun q=>(F2.mp (I.AA _ q)).elim ne nf,d⟩
  ·have z':p=(D,gf []):=by simpa using z
   subst z'
   exact⟨hacc,I.hok.fresh hD,hDC,fun q=>(F2.mp (I.AA _ q)).elim (fun e=>absurd e (Hw (F1 I.lt hD))) (I.C1 hD),fun v z=>by cases z⟩
 ·show(cN own fr σ).length=N.length
  unfold cN
  rw[F3,Gp,FZ,hlen]
end
def PF(X:Cx)(ifs:List Expr)(t:TT):Prop:=
 ∀(pins:Va) (s:Shared) (σ:St) (H:Hp) (Q:Bool->Hp->Prop),Inv X pins σ H s->t σ H Q->
  wpAny (model X.prog X.w) X.A (forIn ifs true fun c r=>if r=true then do let ok <-isTrue c X.env (eval c X.env);pure (ForInStep.yield ok) else pure (ForInStep.yield r)) (TP X pins σ Q) X.xe s
def xF:TT:=fun _ H Q=>Q true H
def tW{X:Cx}:PF X [] xF:=fun _ _ _ H _ I h=>wpAny_tests_nil ⟨H,I,h⟩
def tX{X:Cx}{c:Expr}{t:TT}(h:PT X c t):PF X [c] t:=fun pins s σ H Q I q=>wpAny_tests_one (h pins s σ H Q I q)
def sy(J:It)(g:TG)(tc:TT)(te:TE)(own:Nat)(σ':St)(fin:List V->Hp->Prop)(H1:Hp):Prop:=
 ∃W:Nat->Nat->List V->Hp->Prop,(∃m,W 0 m [] H1)/\∀i m ys H,W i m ys H->
  (J.stop i H/\ys.length<=sizeLine/\fin ys H) \/
  (J.go i H/\ys.length<=sizeLine/\∃Nx:List V->Hp->Prop,(∀ys' H',Nx ys' H'->∃m',m' < m/\W (i+1) m' ys' H')/\∀x H',J.Dq i H x H'->g x σ' H' fun σ2 H2=>σ2.drop own=σ'.drop own/\tc σ2 H2 fun b H3=>
   if b=true then te σ2 H3 fun y H4=>Nx (ys++[y]) H4 else Nx ys H3)
section
variable {X:Cx} {pins:Va} {σ:St} {H:Hp} {s:Shared}
variable {elt iter tg:Expr} {ifs:List Expr} {scope:Scope} {pos:Pos} {N:Vs} {own:Nat} {fr:List Nat} {fs:Vs} {g:TG} {tc:TT} {te:TE}
def h_{J:It}{fp:List Addr}{it:Addr}{tn:Nat->Heap->Prop}{fin:List V->Hp->Prop}{E:Vq}{RR:Value->Addr->Result->Shared->Prop}
  (hc:X.calm=true) (hcell:∀y∈scope.names,y.2 ≠ .cell) (hkind:scope.kind = .function) (hcl:bI X.env fs) (hhas:jS (relabel scope X.env).names (bO X.env fs)=true)
  (hlen:N.length=own+fr.length) (hN:(N.drop own).map some=fr.map fun j=>X.N[j]?) (hF:zj X.env scope (bO X.env fs) (N.drop own))
  (hg:∀B,PG (X.Aa N scope fs B) tg g) (hf:∀B,PF (X.Aa N scope fs B) ifs tc) (he:∀B,PE (X.Aa N scope fs B) elt te)
  (I:Inv X pins σ H s) (T:kH X.prog X.w X.K tg J fp it tn) (st:tn 0 s.heap) (f:∀b∈fp,dM X pins H b) (W:sy J g tc te own (cN own fr σ) fin H)
  (hRR:∀D C s' ys H' m',Inv X pins σ (upd H' D (.lst ys)) s'->H' D=none->s'.heap.Ns C m'->dM X pins (upd H' D (.lst ys)) C->fin ys H'->RR (.ref D) C (.ok .next) s') :
  wpAny (model X.prog X.w) X.A (newList []) (fun acc s₃=>wpAny (model X.prog X.w) X.A (newFunctionEnv scope X.env.globals (bO X.env fs) [] X.env.qual none .none (some X.env)) (fun cenv s₄=>
   codeAny (model X.prog X.w) X.A (.compStart (.ListComp elt [⟨tg,iter,ifs,0⟩] scope pos) 0 (.ref it) acc { cenv with scope:=relabel scope X.env }) (RR acc cenv.locals) s₄) E s₃) E s:=by
 refine GL (wpAny_newFunctionEnv hcell (by intro y hy;simp at hy) (fun h₁ CC Cc=>?_) hkind)
 dsimp only at CC Cc ⊢
 generalize DR:s.heap.push { cls:=.type "list",dict:=none,data:=.seq ([]:Vv).toArray }=H2 at CC Cc ⊢
 have hC:H2.objs.size=s.heap.objs.size+1:=by rw[<-DR,GD]
 have CD:s.heap.objs.size<=H2.objs.size:=by rw[hC];exact Nat.le_succ _
 have hDC:s.heap.objs.size≠H2.objs.size:=by rw[hC];exact Ga (Nat.lt_succ_self _)
 have below:∀b,b < s.heap.objs.size->b≠H2.objs.size/\b≠s.heap.objs.size:=fun b hb=>⟨by rw[hC];exact Ga (Nat.lt_succ_of_lt hb),Ga hb⟩
 have old:∀b o,s.heap.get? b=some o->h₁.get? b=some o:=fun b o e=>Cc.extBut b o (below b (FU e)).1 (FP _ (DR▸FP _ e))
 have hacc:h₁.get? s.heap.objs.size=some (gf []):=Cc.extBut _ _ hDC (FP _ (DR▸F0 _ rfl))
 have hlt:∀b∈fp,b < s.heap.objs.size:=fun b hb=>by
  obtain⟨o,e,_⟩:=T.obj 0 _ st b hb
  exact FU e
 obtain⟨Wv,⟨m0,w0⟩,turn⟩:=W
 have ok:=tV (N:=N) I hkind CD hcl hhas f hlt
 have loop:∀s₃:Shared,s₃={ s with heap:=h₁,toks:=s.toks+([]:List (Str×Value)).length }->
   codeAny (model X.prog X.w) X.A (.compLoop (.ListComp elt [⟨tg,iter,ifs,0⟩] scope pos) 0 (.ref it) (.ref s.heap.objs.size) (compEnvC scope (bO X.env fs) H2.objs.size X.env))
    (RR (.ref s.heap.objs.size) H2.objs.size) s₃:=by
  rintro s₃ rfl
  have I0:=rg (own:=own) (fr:=fr) (t':=s.toks+([]:List (Str×Value)).length) I ok CD (FQ _) hDC hcl old CC hacc hlen hN hF
  have E_:tn 0 h₁:=T.keep 0 _ _ st fun b _ o e=>old b o e
  have stat:∀{us:Vv} {H':Hp},(∀b∈fp,H' b=none)->∀b∈fp,dM (X.Aa N scope fs ⟨H2.objs.size,s,H,fp,X.pn++pins⟩) [(s.heap.objs.size,gf us)] H' b:=fun{us H'} hn b hb=>by
   obtain⟨f0,f1,f2,f3,f4,f5⟩:=f b hb
   refine⟨hn b hb,(below b (hlt b hb)).1,fun z=>(F2.mp (I.AA b z)).elim f1 f2,.inl hb,fun x c e=>f4 x c (gH hcl e),fun p hp=>?_⟩
   rcases Gh.mp hp with z|z
   ·exact f5 p z
   ·have z':p=(s.heap.objs.size,gf us):=by simpa using z
    subst z'
    exact Ib (below b (hlt b hb)).2
  have DS:∀p∈X.pn++pins,p.1 < s.heap.objs.size:=fun p hp=>FU (I.pin p hp).1
  refine jR (fun k s'=>∃i ys us H',Inv (X.Aa N scope fs ⟨H2.objs.size,s,H,fp,X.pn++pins⟩) [(s.heap.objs.size,gf us)] (cN own fr σ) H' s'/\Vals ys us/\tn i s'.heap/\(∀b∈fp,H' b=none)/\Wv i k ys H') ?_ m0
   ⟨0,[],[],H,I0,.nil,E_,fun b hb=>(f b hb).1,w0⟩
  rintro n s' ⟨i,ys,us,H',I',rv,st',EA,w'⟩
  rcases turn i n ys H' w' with⟨stop,hz,DT⟩|⟨go,hz,Nx,EB,step⟩
  ·refine yK (T.done (X.Aa N scope fs ⟨H2.objs.size,s,H,fp,X.pn++pins⟩) rfl rfl rfl hc i _ s' _ H' (fun _ _=>False) I' (stat EA) st' stop) (fun r s1 ⟨hr,I1⟩=>?_)
   subst hr
   show RR _ _ (.ok .next) s1
   have IX:Inv X pins σ H' s1:=I.C4 I1.os I1.base I1.hok I1.bare fun b hb=>by
    obtain⟨f0,f1,f2,f3,f4,f5⟩:=f b hb
    exact⟨f3,f1,f4,f5⟩
   obtain⟨eD,nD,_⟩:=I1.pin (s.heap.objs.size,gf us) (by simp)
   have IT:=IX.C9 (I.A7 (H':=H') (FQ _) nD) eD rv hz
   obtain⟨m',hn',_⟩:=I1.loc
   exact hRR _ _ s1 ys H' m' IT nD hn' (I.A7 CD (by rw[ax (Ib hDC)];exact I1.free)) DT
  ·refine yK (T.item (X.Aa N scope fs ⟨H2.objs.size,s,H,fp,X.pn++pins⟩) rfl rfl rfl hc i _ s' _ H' (fun _ _=>False) I' (stat EA) st' go) (fun r s1 ⟨u,hr,h1⟩=>?_)
   subst hr
   show wpAny _ _ (letOwnedTupleGo tg (.ref it) u) _ _ s1
   refine yK h1 (fun _ s5 ⟨x,H5,I5,r5,y5,Ca,DI⟩=>?_)
   have DJ:=I5.pinned (stat DI) (T.obj _ _ Ca)
   refine yK (hg _ _ s5 _ H5 x u _ DJ r5 (step x H5 y5)) (fun _ s6 ⟨σ6,H6,I6,Fa,q6⟩=>?_)
   refine yK (hf _ _ s6 σ6 H6 _ I6 q6) (fun b s7 ⟨H7,I7,q7⟩=>?_)
   -- CF the turn's own names
   have forget:∀{H8:Hp} {s8:Shared} {pl:Va},Inv (X.Aa N scope fs ⟨H2.objs.size,s,H,fp,X.pn++pins⟩) pl σ6 H8 s8->Inv (X.Aa N scope fs ⟨H2.objs.size,s,H,fp,X.pn++pins⟩) pl (cN own fr σ) H8 s8:=fun{H8 s8 pl} I8=>by
    refine I8.weak (I0.len.trans I8.len.symm) fun j v e=>?_
    by_cases hj:j < own
    ·unfold cN at e
     rw[GB (by rw[Gp];exact hj),G2,if_pos hj]at e
     cases e
    ·obtain⟨k,rfl⟩:∃k,j=own+k:=⟨j - own,by omega⟩
     rw[<-HU]at e ⊢
     rw[Fa]
     exact e
   have Ds:∀{H8:Hp} {s8:Shared},Inv (X.Aa N scope fs ⟨H2.objs.size,s,H,fp,X.pn++pins⟩) ([(s.heap.objs.size,gf us)]++hJ fp s5.heap) σ6 H8 s8->∀b∈fp,∀o,s5.heap.get? b=some o->s8.heap.get? b=some o/\H8 b=none:=fun I8 b hb o e=>
    let z:=I8.pin (b,o) (Gb _ (Gb _ (fh hb e)))
    ⟨z.1,z.2.1⟩
   cases b with
   |false=>
    show ∃m,m < n/\_
    obtain⟨m',hm,w7⟩:=EB _ _ (show Nx ys H7 from q7)
    refine⟨m',hm,i+1,ys,us,H7,(forget I7).At,rv,T.keep _ _ _ Ca fun b hb o e=>(Ds I7 b hb o e).1,fun b hb=>?_,w7⟩
    obtain⟨o,e,_⟩:=T.obj _ _ Ca b hb
    exact(Ds I7 b hb o e).2
   |true=>
    show wpAny _ _ (eval elt _) _ _ s7
    have Fb:te σ6 H7 fun y H4=>Nx (ys++[y]) H4:=q7
    refine yK (he _ _ s7 σ6 H7 _ I7 Fb) (fun v s8 ⟨y,H8,I8,r8,n8⟩=>?_)
    obtain⟨m',hm,w8⟩:=EB _ _ n8
    obtain⟨eD,nD,EC,Fc,_⟩:=I8.pin (s.heap.objs.size,gf us) (Gb _ (Hq _ (by simp)))
    refine append_at (hsz:=by show us.toArray.size<=sizeLine;rw[FY,<-rv.length];exact hz) eD fun h9 ED Fd=>?_
    have J0:Inv (X.Aa N scope fs ⟨H2.objs.size,s,H,fp,X.pn++pins⟩) [] σ6 H8 s8:=I8.AQ fun p hp=>nomatch hp
    have J1:Inv (X.Aa N scope fs ⟨H2.objs.size,s,H,fp,X.pn++pins⟩) [] σ6 H8 { s8 with heap:=h9 }:=J0.turned (t':=s8.toks) (it:=s.heap.objs.size) (fun b o hb e=>(ED.2 b hb).trans e) nD EC (.inr (FQ _))
     (fun x c e z=>by
      obtain⟨v',q⟩:=I.cell x c (gH hcl e)
      exact absurd (F1 q.lt (by rw[z];exact FQ _)) (G9 _))
     (fun p hp=>by
      rw[Hy]at hp
      exact Ga (DS p hp))
    have J2:Inv (X.Aa N scope fs ⟨H2.objs.size,s,H,fp,X.pn++pins⟩) [(s.heap.objs.size,gf (us++[v]))] σ6 H8 { s8 with heap:=h9 }:=J1.AQ fun p hp=>by
     have z':p=(s.heap.objs.size,gf (us++[v])):=by simpa using hp
     subst z'
     exact⟨Fd.trans (Gy some (m8 us v)),nD,EC,Fc,fun v z=>by cases z⟩
    refine⟨m',hm,i+1,ys++[y],us++[v],H8,forget J2,Vals.append rv (.cons r8 .nil),T.keep _ _ _ Ca fun b hb o e=>(ED.2 b (below b (hlt b hb)).2).trans (Ds I8 b hb o e).1,fun b hb=>?_,w8⟩
    obtain⟨o,e,_⟩:=T.obj _ _ Ca b hb
    exact(Ds I8 b hb o e).2
 exact codeAny_compStart_list (loop _ rfl) (T.self _ 0 _ _ _ (T.keep 0 _ _ st fun b _ o e=>old b o e) (loop _ rfl))
def oB(wi:TI)(g:TG)(tc:TT)(te:TE)(own:Nat)(fr:List Nat):TE:=fun σ H Q=>wi σ H fun J H1=>
 sy J g tc te own (cN own fr σ) (fun ys H2=>∀D,H2 D=none->Q (.ref D) (upd H2 D (.lst ys))) H1
def rh(fs:Vs)(own:Nat)(fr:List Nat)(N:Vs){wi:TI}(hc:X.calm=true)(hclos:closureFor scope X.env=pure (bO X.env fs))(hcell:∀y∈scope.names,y.2 ≠ .cell)(hkind:scope.kind = .function)
  (hnames:∀x∈scope.names,x.2 = .local->scope.names.lookup x.1=some .local) (hcl:bI X.env fs) (hhas:jS (relabel scope X.env).names (bO X.env fs)=true)
  (hlen:N.length=own+fr.length) (hN:(N.drop own).map some=fr.map fun j=>X.N[j]?) (hF:zj X.env scope (bO X.env fs) (N.drop own))
  (hi:PI X tg iter wi) (hg:∀B,PG (X.Aa N scope fs B) tg g) (hf:∀B,PF (X.Aa N scope fs B) ifs tc) (he:∀B,PE (X.Aa N scope fs B) elt te)
  (hs:∀x,foldedSetIterable iter X.env x=pure x:=by intro _;rfl):PE X (.ListComp elt [⟨tg,iter,ifs,0⟩] scope pos) (oB wi g tc te own fr):=by
 intro pins s σ H Q I h
 rw[eval_ListComp]
 refine wpAny_comprehension_free (use:=none) (g:=⟨tg,iter,ifs,0⟩) (gs:=[]) rfl hs hclos hkind hnames (yK (hi pins s σ H _ I h) fun v s1 h1=>yK h1 fun itv s2 h2=>?_)
 obtain⟨it,fp,tn,J,H2,e,I2,T,st2,f2,W⟩:=h2
 subst e
 refine h_ (RR:=fun acc C=>compPost (model X.prog X.w) X.A X.xe none (EP X pins σ Q) acc C) hc hcell hkind hcl hhas hlen hN hF hg hf he I2 T st2 f2 W ?_
 intro D C s' ys H' m' I' nD hn fC fin
 exact⟨m',hn,fun h' hs'=>⟨.ref D,_,I'.turned (t':=s'.toks) (fun b o hb e=>(hs'.2 b hb).trans e) fC.1 fC.2.1 fC.2.2.2.1 fC.2.2.2.2.1 fC.2.2.2.2.2,rfl,fin D nD⟩⟩
def rj(fs:Vs)(own:Nat)(fr:List Nat)(N:Vs){wi:TI}{i:Nat}{y:Str}{py spos:Pos}(hX:X.N.Nodup)(hix:X.N[i]?=some y)(hy:X.env.scope.names.lookup y=some .local)
  (hsw:swapsWith (.ListComp elt [⟨tg,iter,ifs,0⟩] scope pos) (some (.Name y py)) spos.line X.env=pure true)
  (hc:X.calm=true) (hclos:closureFor scope X.env=pure (bO X.env fs)) (hcell:∀y∈scope.names,y.2 ≠ .cell) (hkind:scope.kind = .function)
  (hnames:∀x∈scope.names,x.2 = .local->scope.names.lookup x.1=some .local) (hcl:bI X.env fs) (hhas:jS (relabel scope X.env).names (bO X.env fs)=true)
  (hlen:N.length=own+fr.length) (hN:(N.drop own).map some=fr.map fun j=>X.N[j]?) (hF:zj X.env scope (bO X.env fs) (N.drop own))
  (hi:PI X tg iter wi) (hg:∀B,PG (X.Aa N scope fs B) tg g) (hf:∀B,PF (X.Aa N scope fs B) ifs tc) (he:∀B,PE (X.Aa N scope fs B) elt te)
  (hs:∀x,foldedSetIterable iter X.env x=pure x:=by intro _;rfl):PS X (.Assign [.Name y py] (.ListComp elt [⟨tg,iter,ifs,0⟩] scope pos) spos) (qK (oB wi g tc te own fr) (kG i)):=by
 intro pins s σ H D I h
 rw[exec_Assign_Name_used _ _ _ _ hsw]
 refine FO (wpAny_standAt (FO ?_))
 show wpAny _ X.A (do let _ <-comprehension (.ListComp elt [⟨tg,iter,ifs,0⟩] scope pos) scope X.env _ (newList []) false (eval iter X.env) (some (assign (.Name y py) X.env))) _ _ s
 refine FO (Hv (wpAny_comprehension_free (use:=some (assign (.Name y py) X.env)) (Q:=fun _ s'=>SP X pins D .next s') (g:=⟨tg,iter,ifs,0⟩) (gs:=[]) rfl hs hclos hkind hnames
  (yK (hi pins s σ H _ I h) fun v s1 h1=>yK h1 fun itv s2 h2=>?_)) (fun _ s' hq=>FW (FW hq)) fun _ _ e=>e)
 obtain⟨it,fp,tn,J,H2,e,I2,T,st2,f2,W⟩:=h2
 subst e
 refine h_ (RR:=fun acc C=>compPost (model X.prog X.w) X.A X.xe (some (assign (.Name y py) X.env)) (fun _ s'=>SP X pins D .next s') acc C) hc hcell hkind hcl hhas hlen hN hF hg hf he I2 T st2 f2 W ?_
 intro Da C s' ys H' m' I' nD hn fC fin
 show wpAny _ X.A (assign (.Name y py) X.env (.ref Da)) _ _ s'
 refine wpAny_assign_Name (jb (v:=.ref Da) I' hX hix (.inl hy) rfl (fun s2 I3 ⟨a,sb,ha⟩=>?_) (.inr hy))
 have ca:C≠a:=by
  rcases ha with z|z
  ·rw[z];exact fC.2.1
  ·exact Ib (fC.2.2.2.2.1 _ _ z)
 exact⟨m',hn.sameBut sb ca,fun h' hs'=>⟨_,_,I3.turned (t':=s2.toks) (fun b o hb e=>(hs'.2 b hb).trans e) fC.1 fC.2.1 fC.2.2.2.1 fC.2.2.2.2.1 fC.2.2.2.2.2,fin Da nD⟩⟩
end
end L2
namespace PySem
open Sem (wp)
namespace F
def m9:typeLookup (.type "list_reverseiterator") "__len__" = pure none:=by rw[typeLookup_type,builtinLookup_eq_fast];kernel_rfl
def oC:typeLookup (.type "list_reverseiterator") "__length_hint__" = pure (some (.builtin "list_reverseiterator.__length_hint__")):=by rw[typeLookup_type,builtinLookup_eq_fast];kernel_rfl
end F
section
variable {prog:Program} {w:World} {A:Around} {s:Shared} {R:Result->Shared->Prop}
variable {I:Addr} {fp wr:List Addr} {G:Array GenState->Array GenState->Prop} {n:Nat} {P:Nat->Value->Prop} {St:Nat->Shared->Prop}
def lE(W:WalksS prog w A.in1 I fp wr G n P St)(hT:∀i s,St i s->s.TypeIs (.ref I) "list_reverseiterator")(S:Addr)(res:Value)(c₀:Nat)(hst:St 0 s)(hSf:S ∉ fp)(hI:I∈fp)
  (hS:s.heap.get? S=some { cls:=.type "list",data:=.seq #[] c₀ })
  (hR:∀s' acc' c',Moved (S::wr) G s s'->s'.heap.get? S=some { cls:=.type "list",dict:=none,data:=.seq acc' c',slots:=#[] }->ItemsOf P acc' n->R (.ok (.ret res)) s') (hn:n<=sizeLine) :
  wpAny (model prog w) A.in1 (Builtin.List.listExtendWith (.ref S) (.ref I) res)
   (fun fin s'=>match fin with | .done f=>R (.ok f) s' | .again c'=>c'.quiet=true/\codeAny (model prog w) A c' R s') (fun e s'=>R (.error e) s') s:=by
 have hSI:S≠I:=fun e=>hSf (e▸hI)
 have h1:Builtin.List.listSameRef (.ref S) (.ref I)=false:=by simp[Builtin.List.listSameRef,hSI]
 unfold Builtin.List.listExtendWith
 refine FO (wpAny_typeOf (hT 0 _ hst) ?_)
 rw[if_neg (by rw[h1];decide)]
 refine FO (W.self 0 _ _ _ hst ?_)
 refine FO (HL ?_)
 unfold Builtin.List.listLengthHint
 refine FO (wpAny_specialOf (hT 0 _ hst) F.m9 ?_)
 show wpAny _ A.in1 (specialOf (Value.ref I) (Str.ofString "__length_hint__") >>= _) _ _ _
 refine FO (wpAny_specialOf (hT 0 _ hst) F.oC ?_)
 (generalize hid:("list_reverseiterator.__length_hint__":String)=Fe;wp_delta;rw[show splitId Fe=some ("list_reverseiterator","__length_hint__")from by subst hid;decide +kernel];subst hid)
 refine FO (wpAny_isInstance (b:=true) (hT 0 _ hst) (by rw[isSubtype_type];kernel_rfl) ?_)
 refine FW ?_
 rw[if_neg (by decide)]
 exact FW ⟨plainId_quiet F.plain_extend_loop _,codeAny_extend_loopS W hn _ hSf _ n 0 _ _ _ rfl (Gv _) hst hS (ItemsOf.nil P) fun s' acc' c' hm hS' hacc=>hR s' acc' c' hm hS' hacc⟩
def iX(W:WalksS prog w A.in1 I fp wr G n P St)(hT:∀i s,St i s->s.TypeIs (.ref I) "list_reverseiterator")(S:Addr)(hst:St 0 s)(hSf:S ∉ fp)(hI:I∈fp)
  (hS:s.heap.get? S=some { cls:=.type "list",data:=.seq #[] })
  (hR:∀s' acc' c',Moved (S::wr) G s s'->s'.heap.get? S=some { cls:=.type "list",dict:=none,data:=.seq acc' c',slots:=#[] }->ItemsOf P acc' n->R (.ok (.ret .none)) s') (hn:n<=sizeLine) :
  wpAny (model prog w) A.in1 (Builtin.«list.__init__» ⟨[.ref S,.ref I],[]⟩)
   (fun fin s'=>match fin with | .done f=>R (.ok f) s' | .again c'=>c'.quiet=true/\codeAny (model prog w) A c' R s') (fun e s'=>R (.error e) s') s:=by
 show wpAny _ A.in1 (do let old <-Builtin.List.listItems (.ref S);Builtin.List.listUpdate (.ref S) (fun _=>#[]);letGo old.toList.reverse;Builtin.List.listExtendWith (.ref S) (.ref I) .none) _ _ s
 refine FO ?_
 unfold Builtin.List.listItems
 refine FO (Gj hS rfl (FW ?_))
 show wpAny _ A.in1 (updateSeq S (fun _=>#[]) >>= fun _=>letGo (#[]:Vw).toList.reverse >>= fun _=>Builtin.List.listExtendWith (.ref S) (.ref I) .none) _ _ s
 refine FO (wpAny_updateSeq hS rfl ?_)
 have Ff:=Hz (Obj.mapSeq (fun _=>(#[]:Vw))) hS rfl
 have EE:∀b o,b≠S->s.heap.get? b=some o->(s.heap.update S (Obj.mapSeq (fun _=>(#[]:Vw)))).get? b=some o:=
  fun b o hb e=>(Ih _ _ (Ib hb)).trans e
 refine FO (HY ?_)
 refine lE (hn:=hn) W hT S .none _ (W.frame 0 s _ s.toks hst (FQ _) fun b hb o e=>EE b o (fun h=>hSf (h▸hb)) e) hSf hI Ff fun s' acc' c' hm hS' hacc=>?_
 exact hR s' acc' c' (Moved.trans W.gtrans ((Moved.refl W.grefl).then_heap (FQ _) fun b o hb e=>EE b o (fun h=>hb (h▸GR)) e) hm) hS' hacc
end
section
variable {prog:Program} {w:World} {A:Around} {E:Vq} {s:Shared}
def iY{I l:Addr}{items:Vw}{Q:Vq}(hh:A.handled=none)(hl:s.heap.IsList l items)(hit:s.heap.IsRevIter I l ((items.size:Int) - 1))(hne:l≠I)(hn:items.size<=sizeLine)
  (hQ:∀h' tk acc' c',(∀b o,b≠I->s.heap.get? b=some o->h'.get? b=some o)->h'.get? s.heap.objs.size=some { cls:=.type "list",dict:=none,data:=.seq acc' c',slots:=#[] }->
   acc'.toList=items.toList.reverse->Q (.ref s.heap.objs.size) { s with heap:=h',toks:=tk }) :
  wpAny (model prog w) A (call (.type "list") [.ref I]) Q E s:=by
 have W:=(Walks.listRev (prog:=prog) (w:=w) (A:=A.in1.in1) hh I l hne items).toS
 have DU:I < s.heap.objs.size:=by obtain⟨o,ho,_⟩:=hit;exact FU ho
 have DV:l < s.heap.objs.size:=by obtain⟨o,ho,_⟩:=hl;exact FU ho
 have hfp:∀b∈[I,l],b < s.heap.objs.size:=fun b hb=>by
  rcases F2.mp hb with rfl|hb
  ·exact DU
  ·rw[Gi.mp hb];exact DV
 have hSf:s.heap.objs.size ∉ [I,l]:=fun hm=>G9 _ (hfp _ hm)
 have hst:(fun i (s:Shared)=>i<=items.size/\s.heap.IsRevIter I l ((items.size:Int) - 1 - (i:Int))/\s.heap.IsList l items) 0 s:=⟨Gv _,by simpa using hit,hl⟩
 refine callType_codes (Q₁:=fun obj s₁=>obj = .ref s.heap.objs.size/\s₁={ s with heap:=s.heap.push { cls:=.type "list",data:=.seq #[] } }) F.called_list (F.typeCall_list_1 _) F.entry_list_init
  (code_list_new _ ⟨rfl,rfl⟩) fun obj s₁ h₁=>?_
 obtain⟨rfl,rfl⟩:=h₁
 have hS:(s.heap.push { cls:=.type "list",data:=.seq #[] }).get? s.heap.objs.size=some { cls:=.type "list",data:=.seq #[] }:=F0 _ rfl
 refine⟨⟨_,hS,rfl⟩,F.args_list_init_2 _ _,iX (hn:=hn) W (fun i s st=>st.2.1.typeIs) _ (W.frame 0 s _ s.toks hst (FQ _) fun b _ o e=>FP _ e) hSf (GR ..) hS fun s' acc' c' hm hS' hacc=>?_⟩
 refine⟨rfl,?_⟩
 rw[hm.eq_with]
 refine hQ s'.heap s'.toks acc' c' (fun b o hb e=>hm.heap b o (fun z=>?_) (FP _ e)) hS' ?_
 ·rcases F2.mp z with z|z
  ·exact absurd (FU e) (by rw[z];exact G9 _)
  ·exact hb (Gi.mp z)
 ·obtain⟨hsz,hP⟩:=hacc
  apply List.ext_getElem?
  intro j
  by_cases hj:j < items.size
  ·have hj':j < acc'.size:=by rw[hsz];exact hj
   have q:=hP j acc'[j] (by simp[hj'])
   have e1:acc'.toList[j]?=some acc'[j]:=by simp[hj']
   rw[e1,List.getElem?_reverse (by simpa using hj)]
   simpa using q.symm
  ·rw[Hh (by simpa [hsz]using hj),Hh (by simpa using hj)]
end
end PySem
namespace L2
open PySem PySem.Spec PyProof.Rows
section
variable {X:Cx}
def oD(K:Vo)(te:TE):TE:=fun σ H Q=>te σ H fun x H1=>∃a xs,x = .ref a/\SqL K H1 a xs/\∀q,H1 q=none->Q (.ref q) (upd H1 q (.lst xs.reverse))
def lF{e:Expr}{te:TE}{p1 p2 q1 q2:Pos}(hc:X.calm=true)(he:PE X e te)(DW:Gl X "list")(hm1:X.mg "list" = none)(C_:Gl X "reversed")(hm2:X.mg "reversed" = none)
  (hs:starEach [e] X.env=[(false,eval e X.env)]:=by rfl) (hs2:starEach [.Call (.Name "reversed" p2) [e] [] q2] X.env=[(false,eval (.Call (.Name "reversed" p2) [e] [] q2) X.env)]:=by rfl) :
  PE X (.Call (.Name "list" p1) [.Call (.Name "reversed" p2) [e] [] q2] [] q1) (oD X.K te):=by
 intro pins s σ H Q I h
 refine Hx (fg I DW hm1 (u:=.type "list") (by decide +kernel) ?_)
 refine Gx ?_ hs2 rfl
 rw[hs2]
 show wpAny _ _ (spliced ((false,eval (.Call (.Name "reversed" p2) [e] [] q2) X.env)::backTo q1 [])) _ _ s
 refine Calls.spliced_cons ?_
 refine Hx (fg I C_ hm2 (u:=.type "reversed") boot_reversed ?_)
 refine Gx ?_ hs rfl
 rw[hs]
 show wpAny _ _ (spliced ((false,eval e X.env)::backTo q2 [])) _ _ s
 refine Calls.spliced_cons (yK (he pins s σ H _ I h) fun u s1 ⟨x,H1,I1,r1,a,xs,ex,hx,q⟩=>?_)
 subst ex
 cases r1
 obtain⟨its,rv,p,hz⟩:=I1.list hx
 have hl:=rv.length
 have hal:a < s1.heap.objs.size:=by obtain⟨o,ho,_⟩:=p.isList;exact FU ho
 refine Calls.spliced_nil (call_reversed_list p.isList ?_)
 refine Calls.spliced_nil ?_
 refine iY (I.ok.hd hc) (p.isList.push _) ⟨_,F0 _ rfl,rfl,rfl⟩ (Ga hal) (by rw[FY,<-hl];exact hz) fun h' tk acc c hk hS ha=>?_
 have hsz:(s1.heap.push (revObj a ((its.toArray.size:Int) - 1))).objs.size=s1.heap.objs.size+1:=GD _ _
 have hle:s1.heap.objs.size<=(s1.heap.push (revObj a ((its.toArray.size:Int) - 1))).objs.size:=by rw[hsz];exact Nat.le_succ _
 refine⟨.ref _,_,I1.laid (a:=(s1.heap.push (revObj a ((its.toArray.size:Int) - 1))).objs.size) (o:=.lst xs.reverse) (h':=h') (t':=tk) (fun b u e=>hk b u (Ga (FU e)) (FP _ e)) hle ?_,rfl,q _ (I1.hok.fresh hle)⟩
 refine⟨by rw[List.length_reverse];exact hz,its.reverse,c,Vals.reverse rv,?_⟩
 rw[hS]
 have e:acc=its.reverse.toArray:=by
  apply Array.toList_inj.mp
  rw[ha]
 rw[e]
end
section
variable {X:Cx}
noncomputable abbrev jT(c:Nat):Str:=⟨#[c]⟩
noncomputable def xG(z:Str):It:=⟨fun i _=>i < z.cps.size,fun i H x H'=>H'=H/\∃c,z.cps[i]?=some c/\x = .str (jT c),fun i _=>z.cps.size<=i⟩
def oE{P:Program}{w:World}{K:Vo}{tg:Expr}{ty:String}(hty:ty = "str_ascii_iterator" \/ ty = "str_iterator")(it:Addr)(z:Str)(t:Tok):kH P w K tg (xG z) [it] it (fun i h=>i<=z.cps.size/\h.IsStrIter it ty z t i):=by
 have W:∀A':Around,A'.handled=none->Walks P w A' it [it] [it] z.cps.size (SignAt z) (fun i h=>h.IsStrIter it ty z t i):=fun A' hA=>by
  rcases hty with rfl|rfl
  ·exact Walks.strAscii hA it z t
  ·exact Walks.strWide hA it z t
 have nt:(["enumerate","zip","dict_itemiterator","dict_reverseitemiterator","odict_iterator","itertools.zip_longest","itertools.pairwise"].contains ty)=false:=by
  rcases hty with rfl|rfl<;>decide
 refine⟨by simp,fun i h st b hb=>?_,fun i h h' st k=>?_,?_,?_,?_⟩
 ·have e:b=it:=by simpa using hb
  subst e
  obtain⟨_,o,e,c,d⟩:=st
  exact⟨o,e,fun v q=>by rw[d]at q;cases q⟩
 ·obtain⟨hi,o,e,r⟩:=st
  exact⟨hi,o,k it (by simp) o e,r⟩
 ·intro X hP hw hK hc i pins s σ H E I hf st hg
  subst hP hw hK
  obtain⟨f0,f1,f2,f3,f4,f5⟩:=hf it (by simp)
  refine(W X.A (I.ok.hd hc)).item i s _ _ hg st.2 fun v h' tk hv st' kk=>?_
  obtain⟨c,u,hcp,rfl⟩:=hv
  have I1:Inv X pins σ H { s with heap:=h',toks:=tk }:=I.turned (fun b o hb e=>kk b o (by simpa using hb) e) f0 f1 f3 f4 f5
  obtain⟨o,e,co,d⟩:=id st'
  exact⟨_,rfl,dN (s:={ s with heap:=h',toks:=tk }) e co d nt ⟨.str (jT c),H,I1,⟨u,rfl⟩,⟨rfl,c,hcp,rfl⟩,⟨hg,st'⟩,fun b hb=>(hf b hb).1⟩⟩
 ·intro X hP hw hK hc i pins s σ H E I hf st hg
  subst hP hw hK
  obtain⟨f0,f1,f2,f3,f4,f5⟩:=hf it (by simp)
  have e:i=z.cps.size:=Nat.le_antisymm st.1 hg
  subst e
  exact(W X.A (I.ok.hd hc)).done s _ _ st.2 fun h' tk kk=>⟨rfl,I.turned (fun b o hb e=>kk b o (by simpa using hb) e) f0 f1 f3 f4 f5⟩
 ·intro A i s Q E st h
  rcases hty with rfl|rfl
  ·exact wpAny_pyIter_striter_ascii st.2 h
  ·exact wpAny_pyIter_striter_wide st.2 h
def rm{ys:Vs}:∀{us:Vv},Vals (ys.map V.str) us->StrsAre us ys:=by
 induction ys with
 |nil=>intro us r;rw[HJ]at r;cases r;exact .nil
 |cons n ns ih=>
  intro us r
  rw[Gd]at r
  cases r with
  |cons r1 r2=>
   obtain⟨t,e⟩:=r1
   subst e
   exact .cons n t (ih r2)
noncomputable def vR(K:Vo):V->List V->Hp->VK->Prop:=fun x vs H Q=>∃sep p ys,x = .str sep/\vs=[.ref p]/\SqL K H p (ys.map V.str)/\(ys.map (·.length)).sum+ys.length * sep.length<=1000000/\Q (.str (Txt.join sep ys)) H
def rq:vH X "str.join" (vR X.K):=by
 intro pins s σ H x vs v us Q I rx rv h
 obtain⟨sep,p,ys,rfl,rfl,hp,hz,q⟩:=h
 obtain⟨t,rfl⟩:=rx
 obtain⟨u,rfl,ru⟩:=fD rv
 cases ru
 obtain⟨its,r,pl,_⟩:=I.list hp
 exact join_list pl.isList (by simpa using rm r) (by omega) fun t' k=>⟨.str _,H,I.tok k,⟨t',rfl⟩,q⟩
end
section
variable {X:Cx}
noncomputable def xH:V->Option Int->Option Int->Hp->VK->Prop:=fun x lo hi H Q=>∃z,x = .str z/\z.length<=sizeLine/\Q (.str (Txt.slice z lo hi)) H
def tY:uY X xH:=by
 intro pins s σ H x v vl vu lo hi sl Q I rx hs pl pu h
 obtain⟨z,rfl,hz,q⟩:=h
 obtain⟨t,rfl⟩:=rx
 refine⟨"str",_,F.slot_str_getitem.lookup,typeIs_str _ _ _,?_⟩
 obtain⟨o,e,c,d⟩:=hs
 have fin:∀l u:Option (Int×Tok),(vl=partValue l/\lo=l.map (·.1))->(vu=partValue u/\hi=u.map (·.1))->wpAny (model X.prog X.w) X.A (getItem (.str z t) (.ref sl)) (EP X pins σ Q) X.xe s:=by
  rintro l u ⟨rfl,rfl⟩ ⟨rfl,rfl⟩
  exact wpAny_getItem_str_slice (l:=l) (u:=u) (st:=none) ⟨o,e,c,d⟩ rfl (post_val_or_str ⟨F6 (Txt.slice_le z _ _) hz,fun t' k=>⟨.str _,H,I.tok k,⟨t',rfl⟩,q⟩⟩)
 cases pl with
 |none=>
  cases pu with
  |none=>exact fin none none ⟨rfl,rfl⟩ ⟨rfl,rfl⟩
  |int j uj=>exact fin none (some (j,uj)) ⟨rfl,rfl⟩ ⟨rfl,rfl⟩
 |int i ui=>
  cases pu with
  |none=>exact fin (some (i,ui)) none ⟨rfl,rfl⟩ ⟨rfl,rfl⟩
  |int j uj=>exact fin (some (i,ui)) (some (j,uj)) ⟨rfl,rfl⟩ ⟨rfl,rfl⟩
noncomputable def tZ:V->List V->Hp->VK->Prop:=fun x vs H Q=>∃a b i rest,x = .str a/\vs=[.str b]/\Builtin.Str.occurrences a b 0 a.length 1=i::rest/\Q (.int i) H
def oF:vH X "str.index" tZ:=by
 intro pins s σ H x vs v us Q I rx rv h
 obtain⟨a,b,i,rest,rfl,rfl,ho,q⟩:=h
 obtain⟨t,rfl⟩:=rx
 obtain⟨w,rfl,u,rfl⟩:=fD rv
 exact call_gives F.slot_str_index (typeIs_str _ _ _) F.entry_str_index (F.args_str_index_2 _ _) (gives_str_index a b t u i rest ho) ⟨.int i,H,I.tok _,⟨_,rfl⟩,q⟩
def t4(K:Vo)(i j k:Nat)(te:TE):TS:=fun D σ H=>te σ H fun x H1=>∃p v w u,x = .ref p/\SqT K H1 p [v,w,u]/\D.nx (((σ.set k (some u)).set j (some w)).set i (some v)) H1
def oG{i j k:Nat}{x y z:Str}{e:Expr}{te:TE}{px py pz pt:Pos}{kt:Nat}{pos:Pos}(hc:X.calm=true)(hN:X.N.Nodup)(hi:X.N[i]?=some x)(hj:X.N[j]?=some y)(hk:X.N[k]?=some z)
  (hx:X.env.scope.names.lookup x=some .local) (hy:X.env.scope.names.lookup y=some .local) (hz:X.env.scope.names.lookup z=some .local) (he:PE X e te)
  (hw:swappedStores [.Tuple [.Name x px,.Name y py,.Name z pz] kt pt] e X.env=pure (some [x,y,z]))
  (hs:swapsWithSole [.Tuple [.Name x px,.Name y py,.Name z pz] kt pt] e pos.line X.env=pure false) :
  PS X (.Assign [.Tuple [.Name x px,.Name y py,.Name z pz] kt pt] e pos) (t4 X.K i j k te):=by
 intro pins s σ H D I h
 refine Assign_Tuple_swapped (names:=[x,y,z]) (yK (he pins s σ H _ I h) fun r s1 ⟨xr,H1,I1,r1,p,v,w,u,ex,hp,q⟩=>?_) hs hw
 subst ex
 cases r1
 obtain⟨its,rv,tp,_⟩:=I1.tuple hp
 obtain⟨u1,u2,u3,ei,a1,a2,a3⟩:∃u1 u2 u3,its=[u1,u2,u3]/\RelV v u1/\RelV w u2/\RelV u u3:=by
  cases rv with
  |cons a1 rv=>
   cases rv with
   |cons a2 rv=>
    cases rv with
    |cons a3 rv=>
     cases rv
     exact⟨_,_,_,rfl,a1,a2,a3⟩
 subst ei
 refine unpackItems_tuple (items:=#[u1,u2,u3]) (I.ok.hd hc) tp fun h' kp=>?_
 have I2:=I1.kept (h':=h') (t':=s1.toks) fun b o eb=>kp b o (Ga (FU eb)) eb
 refine Hf (Ic (cn I2 hN hk (.inl hz) a3 (fun s2 I3=>?_) (.inr hz)))
 refine Hf (Ic (cn I3 hN hj (.inl hy) a2 (fun s3 I4=>?_) (.inr hy)))
 exact Hf (Ic (cn I4 hN hi (.inl hx) a1 (fun s4 I5=>assignInOrder_nil ⟨_,H1,I5,q⟩) (.inr hx)))
end
end L2
namespace Zt
open PySem
open Sem (wp)
def Si(kd:Bool)(h:Heap)(a t:Addr)(i:Nat):Prop:=cond kd (h.IsListIter a t i) (h.IsTupleIter a t i)
def Sq(kd:Bool)(h:Heap)(a:Addr)(xs:Vw):Prop:=cond kd (h.IsList a xs) (h.IsTuple a xs)
theorem Si.at{kd:Bool}{h h':Heap}{a t:Addr}{i:Nat}(x:Si kd h a t i)(e:∀o,h.get? a=some o->h'.get? a=some o):Si kd h' a t i:=match kd,x with|true,x=>Heap.IsListIter.at x e|false,x=>Heap.IsTupleIter.at x e
theorem Sq.at{kd:Bool}{h h':Heap}{a:Addr}{xs:Vw}(x:Sq kd h a xs)(e:∀o,h.get? a=some o->h'.get? a=some o):Sq kd h' a xs:=match kd,x with|true,x=>Heap.IsList.at x e|false,x=>Heap.IsTuple.at x e
def Sq.lt{kd:Bool}{h:Heap}{a:Addr}{xs:Vw}(x:Sq kd h a xs):a < h.objs.size:=match kd,x with|true,⟨_,e,_⟩=>FU e|false,⟨_,e,_⟩=>FU e
def Si.ob{kd:Bool}{h:Heap}{a t:Addr}{i:Nat}(x:Si kd h a t i):∃o f,h.get? a=some o/\o.data = .fields f:=match kd,x with|true,⟨o,e,_,d⟩=>⟨o,_,e,d⟩|false,⟨o,e,_,d⟩=>⟨o,_,e,d⟩
def Si.extBut{kd:Bool}{h h':Heap}{a c t:Addr}{i:Nat}(x:Si kd h a t i)(e:Heap.ExtBut c h h')(n:a≠c):Si kd h' a t i:=x.at fun _ q=>e _ _ n q
def Sq.extBut{kd:Bool}{h h':Heap}{a c:Addr}{xs:Vw}(x:Sq kd h a xs)(e:Heap.ExtBut c h h')(n:a≠c):Sq kd h' a xs:=x.at fun _ q=>e _ _ n q
section
variable {prog:Program} {w:World} {A:Around} {E:Vq} {s:Shared}
def nx{j t:Addr}{i:Nat}{its:Vw}{x:Value}{Q:Vq}(hj:s.heap.IsTupleIter j t i)(ht:s.heap.IsTuple t its)(hx:its[i]?=some x)
  (k:∀g:Heap,g.IsTupleIter j t (i+1)->Heap.SameBut j s.heap g->Q x { s with heap:=g }):wpAny (model prog w) A (Builtin.SmallTypes.nextOf (.ref j)) Q E s:=by
 obtain⟨ob,eb,kb,db⟩:=id hj
 obtain⟨oc,ec,_,nc,dc⟩:=ht
 unfold Builtin.SmallTypes.nextOf
 refine FO (Gs (name:=Str.ofString "__next__") hj.typeIs Hg (GV Hg hj.typeIs F.entry_tuple_iterator_next ?_ (F.args_tuple_iterator_next_1 _)))
 show wpAny _ _ (field (.ref j) 0 >>= _) _ _ s;refine FO (Ge eb db (x:=.ref t) rfl ?_)
 show wpAny _ _ (if (Value.ref t == Value.none)=true then _ else _) _ _ s;rw[if_neg (show ¬((Value.ref t == Value.none)=true)from F8)]
 show wpAny _ _ (field (.ref j) 1 >>= _) _ _ s;refine FO (Ge eb db (x:=.int i 0) rfl ?_)
 show wpAny _ _ (seqItems? (.ref t) >>= _) _ _ s;refine FO (Gj ec dc ?_)
 simp only[Int.toNat_natCast,hx];refine FO (wpAny_setField eb db (by simp) (FW ⟨x,rfl,FW (k _ ?_ (IM ..))⟩))
 exact⟨_,Hz _ eb (Obj.isFreed_of_fields (Obj.data_mapFields db _)),(Obj.cls_mapFields ..).trans kb,by rw[Obj.data_mapFields db];simp[rawInt]⟩
def yq{j t:Addr}{i:Nat}{its:Vw}{Q:Vq}(hh:A.handled=none)(hj:s.heap.IsTupleIter j t i)(ht:s.heap.IsTuple t its)(hx:its[i]?=none)
  (k:∀(g:Heap) (e:Addr),Heap.ExtBut j s.heap g->(∃o,g.get? e=some o/\o.cls = .type "StopIteration")->E (.ref e) { s with heap:=g }):wpAny (model prog w) A (Builtin.SmallTypes.nextOf (.ref j)) Q E s:=by
 obtain⟨ob,eb,kb,db⟩:=id hj
 obtain⟨oc,ec,_,nc,dc⟩:=ht
 unfold Builtin.SmallTypes.nextOf
 refine FO (Gs (name:=Str.ofString "__next__") hj.typeIs Hg (GV Hg hj.typeIs F.entry_tuple_iterator_next ?_ (F.args_tuple_iterator_next_1 _)))
 show wpAny _ _ (field (.ref j) 0 >>= _) _ _ s;refine FO (Ge eb db (x:=.ref t) rfl ?_)
 show wpAny _ _ (if (Value.ref t == Value.none)=true then _ else _) _ _ s;rw[if_neg (show ¬((Value.ref t == Value.none)=true)from F8)]
 show wpAny _ _ (field (.ref j) 1 >>= _) _ _ s;refine FO (Ge eb db (x:=.int i 0) rfl ?_)
 show wpAny _ _ (seqItems? (.ref t) >>= _) _ _ s;refine FO (Gj ec dc ?_)
 simp only[Int.toNat_natCast,hx];refine FO (HD (FO (wpAny_setField eb db (by simp) ?_)))
 show wpAny _ _ (newExc (.type "StopIteration") [] >>= _) _ _ _;refine FO ?_
 simp only[newExc,newTuple];refine FO (GL ?_ (by size_fits))
 refine FO (m:=firstArgMember _ _) (wpAny_of_eq (a:=Value.none) (by first|rfl|(simp only[firstArgMember];rfl)) ?_);refine GL ?_ (by size_fits)
 simp only[raiseNew];refine FO (wpAny_handled ?_)
 first|(rw[hh])|(rw[show A.in1.handled=none from hh])
 exact FO (FW (wpAny_throw (k _ _ (((IM ..).extBut.push _).push _) ⟨_,F0 _ rfl,rfl⟩)))
def u4{kd:Bool}{j t:Addr}{i:Nat}{its:Vw}{x:Value}{Q:Vq}(hj:Si kd s.heap j t i)(ht:Sq kd s.heap t its)(hx:its[i]?=some x)
  (k:∀g:Heap,Si kd g j t (i+1)->Heap.SameBut j s.heap g->Q x { s with heap:=g }):wpAny (model prog w) A (Builtin.SmallTypes.nextOf (.ref j)) Q E s:=by
 cases kd with
 |true=>exact wpAny_nextOf_list_item hj ht hx k
 |false=>exact nx hj ht hx k
def t5{kd:Bool}{j t:Addr}{i:Nat}{its:Vw}{Q:Vq}(hh:A.handled=none)(hj:Si kd s.heap j t i)(ht:Sq kd s.heap t its)(hx:its[i]?=none)
  (k:∀(g:Heap) (e:Addr),Heap.ExtBut j s.heap g->(∃o,g.get? e=some o/\o.cls = .type "StopIteration")->E (.ref e) { s with heap:=g }):wpAny (model prog w) A (Builtin.SmallTypes.nextOf (.ref j)) Q E s:=by
 cases kd with
 |true=>exact wpAny_nextOf_list_end hh hj ht hx k
 |false=>exact yq hh hj ht hx k
variable {ka kb:Bool} {z TI TO i1 i2 l1 l2:Addr} {k1 k2:Nat} {xs ys:Vw} {x y a b:Value}
def jU{Q:Vq}(D:ZipApart z TI TO i1 i2 l1 l2)(gz:IsZip s.heap z TI TO .none)(gI:IsPair s.heap TI (.ref i1) (.ref i2))(gO:IsPair s.heap TO a b)
  (g1:Si ka s.heap i1 l1 k1) (g2:Si kb s.heap i2 l2 k2) (t1:Sq ka s.heap l1 xs) (t2:Sq kb s.heap l2 ys) (hx:xs[k1]?=some x) (hy:ys[k2]?=some y)
  (k:∀g,IsZip g z TI TO (rawInt s.heap.objs.size)->IsPair g TO x y->Si ka g i1 l1 (k1+1)->Si kb g i2 l2 (k2+1)->IsPair g s.heap.objs.size x y->
   (∀c o,c≠z->c≠TO->c≠i1->c≠i2->s.heap.get? c=some o->g.get? c=some o)->Q (.ref s.heap.objs.size) { s with heap:=g }) :
  wpAny (model prog w) A (Builtin.«zip.__next__» ⟨[.ref z],[]⟩) (fun fin s'=>∃v,fin = .done (.ret v)/\Q v s') E s:=by
 show wpAny _ _ (field (.ref z) 2 >>= _) _ _ _;refine FO (Ge gz rfl (x:=.bool false) rfl ?_)
 show wpAny _ _ (field (.ref z) 3 >>= _) _ _ _;refine FO (Ge gz rfl (x:=.ref TI) rfl (FO (Gj gI rfl ?_)))
 show wpAny _ _ (Builtin.SmallTypes.ownedTupleIsFree (.ref z) >>= _) _ _ _;refine FO ?_;unfold Builtin.SmallTypes.ownedTupleIsFree
 refine FO (Ge gz rfl (x:=.none) rfl (FW ?_));simp only[HH]
 refine FO (HD (FO (Ge gz rfl (x:=.ref TO) rfl (FO (Gk gz (by simp) fun h₁ z1 q1=>?_)))))
 replace z1:IsZip h₁ z TI TO .ellipsis:=z1
 refine FO ?_;simp only[List.zipIdx_cons,List.zipIdx_nil,IF,List.forIn_nil]
 refine FO (FO (Hs ?_));show wpAny _ _ (Builtin.SmallTypes.nextOf (.ref i1) >>= _) _ _ _
 refine FO (u4 (g1.extBut q1.extBut D.i1z) (t1.extBut q1.extBut D.l1z) hx fun h₂ n1 q2=>FW ?_)
 have o2:IsPair h₂ TO a b:=q2.extBut _ _ D.TOi1 (q1.extBut _ _ D.TOz gO)
 refine FO (Gj o2 rfl (FO (Iz o2 fun h₃ o3 q3=>?_)))
 replace o3:IsPair h₃ TO x b:=o3
 refine FO (HY (FW ?_));refine FO (FO (Hs ?_));show wpAny _ _ (Builtin.SmallTypes.nextOf (.ref i2) >>= _) _ _ _
 refine FO (u4 (((g2.extBut q1.extBut D.i2z).extBut q2.extBut D.i12.symm).extBut q3.extBut D.TOi2.symm) (((t2.extBut q1.extBut D.l2z).extBut q2.extBut D.l2i1).extBut q3.extBut D.l2TO) hy fun h₄ n2 q4=>FW ?_)
 have o4:IsPair h₄ TO x b:=q4.extBut _ _ D.TOi2 o3
 refine FO (Gj o4 rfl (FO (Iz o4 fun h₅ o5 q5=>?_)))
 replace o5:IsPair h₅ TO x y:=o5
 refine FO (HY (FW (FW ?_)));refine FO (Gj o5 rfl (FO (wpAny_newTuple ?_)))
 have sz:h₅.objs.size=s.heap.objs.size:=by rw[q5.1,q4.1,q3.1,q2.1,q1.1]
 have z5:IsZip h₅ z TI TO .ellipsis:=q5.extBut _ _ D.TOz.symm (q4.extBut _ _ D.i2z.symm (q3.extBut _ _ D.TOz.symm (q2.extBut _ _ D.i1z.symm z1)))
 have kk:∀c o,c≠z->c≠TO->c≠i1->c≠i2->s.heap.get? c=some o->h₅.get? c=some o:=fun c o c1 c2 c3 c4 e=>q5.extBut _ _ c2 (q4.extBut _ _ c4 (q3.extBut _ _ c2 (q2.extBut _ _ c3 (q1.extBut _ _ c1 e))))
 have m1:Si ka h₅ i1 l1 (k1+1):=((n1.extBut q3.extBut D.TOi1.symm).extBut q4.extBut D.i12).extBut q5.extBut D.TOi1.symm
 have m2:Si kb h₅ i2 l2 (k2+1):=n2.extBut q5.extBut D.TOi2.symm
 have zl:z < h₅.objs.size:=FU z5
 show wpAny _ _ (Builtin.SmallTypes.ownedTupleHandOut (.ref z) (.ref h₅.objs.size) >>= _) _ _ _;refine FO ?_;unfold Builtin.SmallTypes.ownedTupleHandOut
 have z6:IsZip (h₅.push { cls:=.type "tuple",data:=.seq #[x,y] }) z TI TO .ellipsis:=FP _ z5
 refine FO (Gk z6 (by simp) fun h₇ z7 q7=>?_)
 replace z7:IsZip h₇ z TI TO (rawInt h₅.objs.size):=z7
 refine Gk z7 (by simp) fun h₈ z8 q8=>?_
 replace z8:IsZip h₈ z TI TO (rawInt h₅.objs.size):=z8
 have up:∀c o,c≠z->h₅.get? c=some o->h₈.get? c=some o:=fun c o c1 e=>q8.extBut _ _ c1 (q7.extBut _ _ c1 (FP _ e))
 have T8:IsPair h₈ h₅.objs.size x y:=q8.extBut _ _ (Hw zl) (q7.extBut _ _ (Hw zl) (F0 _ rfl))
 rw[sz]at z8 T8
 refine FW ⟨_,rfl,?_⟩
 show Q (.ref h₅.objs.size) _
 rw[sz]
 exact k h₈ z8 (up _ _ D.TOz o5) (m1.at fun o e=>up _ o D.i1z e) (m2.at fun o e=>up _ o D.i2z e) T8 fun c o c1 c2 c3 c4 e=>up c o c1 (kk c o c1 c2 c3 c4 e)
def lG{Q:Fin->Shared->Prop}(hh:A.handled=none)(D:ZipApart z TI TO i1 i2 l1 l2)(gz:IsZip s.heap z TI TO .none)(gI:IsPair s.heap TI (.ref i1) (.ref i2))(gO:IsPair s.heap TO a b)
  (g1:Si ka s.heap i1 l1 k1) (g2:Si kb s.heap i2 l2 k2) (t1:Sq ka s.heap l1 xs) (t2:Sq kb s.heap l2 ys) (he:xs[k1]?=none\/ys[k2]?=none)
  (k:∀(g:Heap) (e:Addr),(∀c o,c≠z->c≠TO->c≠i1->c≠i2->s.heap.get? c=some o->g.get? c=some o)->(∃o,g.get? e=some o/\o.cls = .type "StopIteration")->E (.ref e) { s with heap:=g }) :
  wpAny (model prog w) A (Builtin.«zip.__next__» ⟨[.ref z],[]⟩) Q E s:=by
 show wpAny _ _ (field (.ref z) 2 >>= _) _ _ _;refine FO (Ge gz rfl (x:=.bool false) rfl ?_)
 show wpAny _ _ (field (.ref z) 3 >>= _) _ _ _;refine FO (Ge gz rfl (x:=.ref TI) rfl (FO (Gj gI rfl ?_)))
 show wpAny _ _ (Builtin.SmallTypes.ownedTupleIsFree (.ref z) >>= _) _ _ _;refine FO ?_;unfold Builtin.SmallTypes.ownedTupleIsFree
 refine FO (Ge gz rfl (x:=.none) rfl (FW ?_));simp only[HH]
 refine FO (HD (FO (Ge gz rfl (x:=.ref TO) rfl (FO (Gk gz (by simp) fun h₁ z1 q1=>?_)))))
 replace z1:IsZip h₁ z TI TO .ellipsis:=z1
 refine FO ?_;simp only[List.zipIdx_cons,List.zipIdx_nil,IF,List.forIn_nil]
 refine FO (FO (Hs ?_));show wpAny _ _ (Builtin.SmallTypes.nextOf (.ref i1) >>= _) _ _ _
 cases hx:xs[k1]? with
 |none=>
  refine FO (t5 hh (g1.extBut q1.extBut D.i1z) (t1.extBut q1.extBut D.l1z) hx fun h₂ e q2 ⟨oe,ge,ce⟩=>?_)
  have z2:IsZip h₂ z TI TO .ellipsis:=q2 _ _ D.i1z.symm z1
  have ez:e≠z:=fun u=>by subst u;rw[z2]at ge;cases ge;simp at ce
  exact Gk z2 (by simp) fun h₃ _ q3=>k h₃ e (fun c o c1 _ c3 _ u=>q3.extBut _ _ c1 (q2 _ _ c3 (q1.extBut _ _ c1 u))) ⟨oe,q3.extBut _ _ ez ge,ce⟩
 |some x=>
  have hy:ys[k2]?=none:=he.elim (fun q=>by rw[hx]at q;cases q) id
  refine FO (u4 (g1.extBut q1.extBut D.i1z) (t1.extBut q1.extBut D.l1z) hx fun h₂ n1 q2=>FW ?_)
  have o2:IsPair h₂ TO a b:=q2.extBut _ _ D.TOi1 (q1.extBut _ _ D.TOz gO)
  refine FO (Gj o2 rfl (FO (Iz o2 fun h₃ o3 q3=>?_)))
  refine FO (HY (FW ?_));refine FO (FO (Hs ?_));show wpAny _ _ (Builtin.SmallTypes.nextOf (.ref i2) >>= _) _ _ _
  refine FO (t5 hh (((g2.extBut q1.extBut D.i2z).extBut q2.extBut D.i12.symm).extBut q3.extBut D.TOi2.symm) (((t2.extBut q1.extBut D.l2z).extBut q2.extBut D.l2i1).extBut q3.extBut D.l2TO) hy fun h₄ e q4 ⟨oe,ge,ce⟩=>?_)
  have z4:IsZip h₄ z TI TO .ellipsis:=q4 _ _ D.i2z.symm (q3.extBut _ _ D.TOz.symm (q2.extBut _ _ D.i1z.symm z1))
  have ez:e≠z:=fun u=>by subst u;rw[z4]at ge;cases ge;simp at ce
  exact Gk z4 (by simp) fun h₅ _ q5=>k h₅ e (fun c o c1 c2 c3 c4 u=>q5.extBut _ _ c1 (q4 _ _ c4 (q3.extBut _ _ c2 (q2.extBut _ _ c3 (q1.extBut _ _ c1 u))))) ⟨oe,q5.extBut _ _ ez ge,ce⟩
def gg{Q:Option Value->Shared->Prop}(D:ZipApart z TI TO i1 i2 l1 l2)(gz:IsZip s.heap z TI TO .none)(gI:IsPair s.heap TI (.ref i1) (.ref i2))(gO:IsPair s.heap TO a b)
  (g1:Si ka s.heap i1 l1 k1) (g2:Si kb s.heap i2 l2 k2) (t1:Sq ka s.heap l1 xs) (t2:Sq kb s.heap l2 ys) (hx:xs[k1]?=some x) (hy:ys[k2]?=some y)
  (k:∀g,IsZip g z TI TO (rawInt s.heap.objs.size)->IsPair g TO x y->Si ka g i1 l1 (k1+1)->Si kb g i2 l2 (k2+1)->IsPair g s.heap.objs.size x y->
   (∀c o,c≠z->c≠TO->c≠i1->c≠i2->s.heap.get? c=some o->g.get? c=some o)->Q (some (.ref s.heap.objs.size)) { s with heap:=g }):wpAny (model prog w) A (pyNext (.ref z)) Q E s:=by
 have ty:s.TypeIs (.ref z) "zip":=⟨_,gz,rfl⟩
 unfold pyNext
 exact FO (wpAny_attempt (Gs (name:=Str.ofString "__next__") ty G5 (GV G5 ty Ir
  (jU D gz gI gO g1 g2 t1 t2 hx hy fun g a1 a2 a3 a4 a5 a6=>FW (k g a1 a2 a3 a4 a5 a6)) (Ij _))))
def ie{Q:Option Value->Shared->Prop}(hh:A.handled=none)(D:ZipApart z TI TO i1 i2 l1 l2)(gz:IsZip s.heap z TI TO .none)(gI:IsPair s.heap TI (.ref i1) (.ref i2))(gO:IsPair s.heap TO a b)
  (g1:Si ka s.heap i1 l1 k1) (g2:Si kb s.heap i2 l2 k2) (t1:Sq ka s.heap l1 xs) (t2:Sq kb s.heap l2 ys) (he:xs[k1]?=none\/ys[k2]?=none)
  (k:∀g:Heap,(∀c o,c≠z->c≠TO->c≠i1->c≠i2->s.heap.get? c=some o->g.get? c=some o)->Q none { s with heap:=g }):wpAny (model prog w) A (pyNext (.ref z)) Q E s:=by
 have ty:s.TypeIs (.ref z) "zip":=⟨_,gz,rfl⟩
 unfold pyNext
 refine FO (wpAny_attempt (Gs (name:=Str.ofString "__next__") ty G5 (GV G5 ty Ir (lG hh D gz gI gO g1 g2 t1 t2 he fun g e kk ⟨o,ho,hc⟩=>?_) (Ij _))))
 exact FO (wpAny_isInstance (T:="StopIteration") (b:=true) ⟨o,ho,hc⟩ isSubtype_stop (FW (k _ kk)))
end
noncomputable abbrev it(kd:Bool)(l:Addr):Obj:={ cls:=.type (cond kd "list_iterator" "tuple_iterator"),data:=.fields #[.ref l,.int 0 0] }
def Si.mk{kd:Bool}{h:Heap}{a l:Addr}(e:h.get? a=some (it kd l)):Si kd h a l 0:=match kd,e with|true,e=>⟨_,e,rfl,rfl⟩|false,e=>⟨_,e,rfl,rfl⟩
noncomputable abbrev H1(ka:Bool)(h:Heap)(l1:Addr):Heap:=h.push (it ka l1)
noncomputable abbrev H2(ka kb:Bool)(h:Heap)(l1 l2:Addr):Heap:=(H1 ka h l1).push (it kb l2)
noncomputable abbrev H3(ka kb:Bool)(h:Heap)(l1 l2:Addr):Heap:=(H2 ka kb h l1 l2).push { cls:=.type "tuple",data:=.seq #[.ref h.objs.size,.ref (H1 ka h l1).objs.size] }
noncomputable abbrev H4(ka kb:Bool)(h:Heap)(l1 l2:Addr):Heap:=(H3 ka kb h l1 l2).push { cls:=.type "tuple",data:=.seq #[.none,.none] }
noncomputable abbrev H5(ka kb:Bool)(h:Heap)(l1 l2:Addr):Heap:=(H4 ka kb h l1 l2).push { cls:=.type "zip",data:=.fields #[.none,.bool false,.bool false,.ref (H2 ka kb h l1 l2).objs.size,.ref (H3 ka kb h l1 l2).objs.size] }
def gh(ka kb:Bool)(l1 l2:Addr)(xs ys:Vw) :
  Meets (Builtin.«zip.__new__» ⟨[.type "zip",.ref l1,.ref l2],[]⟩) (fun _ R s=>Sq ka s.heap l1 xs/\Sq kb s.heap l2 ys/\R (.ok (.ret (.ref (H4 ka kb s.heap l1 l2).objs.size))) { s with heap:=H5 ka kb s.heap l1 l2 }):=
 .of_wp fun prog w A R s h=>by
  obtain⟨hp,g,d,tk,os⟩:=s;obtain⟨e1,e2,h⟩:=h
  have hsub:=sub_zip
  match ka,kb,e1,e2,h with
  |false,false,e1,e2,h=>
   have L1:Heap.IsTuple (Shared.heap ⟨hp,g,d,tk,os⟩) l1 xs:=e1
   have L2:Heap.IsTuple (Shared.heap ⟨hp.push { cls:=.type "tuple_iterator",data:=.fields #[.ref l1,.int 0 0] },g,d,tk,os⟩) l2 ys:=GP e2 _
   wp_walk using Gm L1,Gm L2
   exact⟨_,rfl,h⟩
  |false,true,e1,e2,h=>
   have L1:Heap.IsTuple (Shared.heap ⟨hp,g,d,tk,os⟩) l1 xs:=e1
   have L2:Heap.IsList (Shared.heap ⟨hp.push { cls:=.type "tuple_iterator",data:=.fields #[.ref l1,.int 0 0] },g,d,tk,os⟩) l2 ys:=GW e2 _
   wp_walk using Gm L1,Gu L2
   exact⟨_,rfl,h⟩
  |true,false,e1,e2,h=>
   have L1:Heap.IsList (Shared.heap ⟨hp,g,d,tk,os⟩) l1 xs:=e1
   have L2:Heap.IsTuple (Shared.heap ⟨hp.push { cls:=.type "list_iterator",data:=.fields #[.ref l1,.int 0 0] },g,d,tk,os⟩) l2 ys:=GP e2 _
   wp_walk using Gu L1,Gm L2
   exact⟨_,rfl,h⟩
  |true,true,e1,e2,h=>
   have L1:Heap.IsList (Shared.heap ⟨hp,g,d,tk,os⟩) l1 xs:=e1
   have L2:Heap.IsList (Shared.heap ⟨hp.push { cls:=.type "list_iterator",data:=.fields #[.ref l1,.int 0 0] },g,d,tk,os⟩) l2 ys:=GW e2 _
   wp_walk using Gu L1,Gu L2
   exact⟨_,rfl,h⟩
section
variable {ka kb:Bool} {prog:Program} {w:World} {A:Around} {E:Vq} {s:Shared}
def ig{l1 l2:Addr}{xs ys:Vw}{Q:Vq}(e1:Sq ka s.heap l1 xs)(e2:Sq kb s.heap l2 ys)
  (k:∀g,IsZip g (s.heap.objs.size+4) (s.heap.objs.size+2) (s.heap.objs.size+3) .none->IsPair g (s.heap.objs.size+2) (.ref s.heap.objs.size) (.ref (s.heap.objs.size+1))->
   IsPair g (s.heap.objs.size+3) .none .none->Si ka g s.heap.objs.size l1 0->Si kb g (s.heap.objs.size+1) l2 0->
   (∀c o,s.heap.get? c=some o->g.get? c=some o)->Q (.ref (s.heap.objs.size+4)) { s with heap:=g }) :
  wpAny (model prog w) A (call (.type "zip") [.ref l1,.ref l2]) Q E s:=by
 refine callType_new F.called_zip (by decide) (F.typeCall_zip_2 _ _) (F.newCall_zip_2 _ _) (fun obj=>F.args_object_init_3 obj _ _) F.entry_zip_new (gh ka kb l1 l2 xs ys) ⟨e1,e2,?_⟩
 have z1:(H1 ka s.heap l1).objs.size=s.heap.objs.size+1:=GD ..
 have z2:(H2 ka kb s.heap l1 l2).objs.size=s.heap.objs.size+2:=by rw[GD,z1]
 have z3:(H3 ka kb s.heap l1 l2).objs.size=s.heap.objs.size+3:=by rw[GD,z2]
 have z4:(H4 ka kb s.heap l1 l2).objs.size=s.heap.objs.size+4:=by rw[GD,z3]
 have g5:(H5 ka kb s.heap l1 l2).get? (H4 ka kb s.heap l1 l2).objs.size=some _:=F0 _ rfl
 have g4:(H5 ka kb s.heap l1 l2).get? (H3 ka kb s.heap l1 l2).objs.size=some _:=FP _ (F0 _ rfl)
 have g3:(H5 ka kb s.heap l1 l2).get? (H2 ka kb s.heap l1 l2).objs.size=some _:=FP _ (FP _ (F0 _ rfl))
 have g2:(H5 ka kb s.heap l1 l2).get? (H1 ka s.heap l1).objs.size=some _:=FP _ (FP _ (FP _ (F0 _ rfl)))
 have g1:(H5 ka kb s.heap l1 l2).get? s.heap.objs.size=some _:=FP _ (FP _ (FP _ (FP _ (F0 _ rfl))))
 show _/\_
 rw[z2,z3,z4]at g5
 rw[z1,z2]at g3
 rw[z3]at g4
 rw[z1]at g2
 rw[z4]
 exact⟨⟨_,g5,rfl⟩,k _ g5 g3 g4 (.mk g1) (.mk g2) fun c o e=>FP _ (FP _ (FP _ (FP _ (FP _ e))))⟩
end
end Zt
namespace L2
open PySem PySem.Spec PyProof.Rows
section
variable {X:Cx} {pins:Va} {σ:St} {H:Hp} {s:Shared} {h':Heap}
def Inv.AS{t':Nat}{fp:List Addr}(I:Inv X pins σ H s)(k:∀b o,b ∉ fp->s.heap.get? b=some o->h'.get? b=some o)(hf:∀b∈fp,dM X pins H b):Inv X pins σ H { s with heap:=h',toks:=t' }:=by
 have C3:∀b u,H b=some u->b ∉ fp:=fun b u e z=>by rw[(hf b z).1]at e;cases e
 refine I.step (g':=s.gens) (d':=s.drawn) (ch:=fp) (fun b hb=>?_) (fun b o _ _ hc e _=>k b o hc e) (fun b o _ _ hc e _=>⟨o.slots,k b o hc e⟩) (fun _ _ _ _ n=>n)
  (fun b o hc e=>⟨o,k b o hc e⟩) (fun _ _ e=>e) (fun _ _ _ e=>e) (fun b ps e=>⟨#[],by rw[e];simp⟩) (fun m hm=>?_) (fun b u e=>?_) I.bare
 ·obtain⟨f0,f1,f2,f3,f4,f5⟩:=hf b hb
  exact⟨f3,f1,f4,f5⟩
 ·obtain⟨o,es,ep,ho,r⟩:=hm
  exact⟨o,es,ep,k _ o (fun z=>(hf _ z).2.1 rfl) ho,r⟩
 ·refine(I.hok b u e).stay (fun c v hc q=>k c v ?_ q) (fun _ q=>q) fun _ _ q=>q
  rcases hc with z|z
  ·rw[z];exact C3 b u e
  ·exact C3 c _ z
def Inv.BW{D:Addr}{us:Vv}{ys:List V}(I:Inv X pins σ H s)(f:dM X pins H D)(e:zi s.heap D us.toArray)(r:Vals ys us)(hz:ys.length<=sizeLine) :
  Inv X pins σ (upd H D (.tup ys)) s:=by
 obtain⟨f0,f1,f2,f3,f4,f5⟩:=f
 have nD:∀b u,H b=some u->b≠D:=fun b u q=>aN q f0
 have hok:z_ X.prog X.w (upd H D (.tup ys)) s.heap:=fun b u q=>by
  by_cases hb:b=D
  ·subst hb
   rw[aA]at q
   cases q
   exact⟨hz,us,r,e⟩
  ·rw[ax hb]at q
   exact(I.hok b u q).stay (fun _ _ _ z=>z) (fun c z=>by rw[ax (nD c _ z)];exact z) fun c xs z=>by rw[ax (nD c _ z)];exact z
 exact I.step (H':=upd H D (.tup ys)) (h':=s.heap) (g':=s.gens) (t':=s.toks) (d':=s.drawn) (ch:=[D])
  (fun b hb=>by
   have z:b=D:=by simpa using hb
   subst z
   exact⟨f3,f1,f4,f5⟩)
  (fun _ _ _ _ _ q _=>q) (fun _ o _ _ _ q _=>⟨o.slots,q⟩)
  (fun b o hb _ n=>by rw[ax (fun z=>hb (by simp[z]))];exact n)
  (fun _ o _ q=>⟨o,q⟩) (fun b xs q=>by rw[ax (nD b _ q)];exact q) (fun b o u q=>by rw[ax (nD b _ q)];exact q)
  (fun b ps q=>⟨#[],by rw[ax (nD b _ q),q];simp⟩) (fun _ q=>q) hok I.bare
end
def iV(kd:Bool)(K:Vo)(H:Hp)(a:Addr)(xs:List V):Prop:=cond kd (SqL K H a xs) (SqT K H a xs)
def Inv.AB{X:Cx}{pins:Va}{σ:St}{H:Hp}{s:Shared}{kd:Bool}{a:Addr}{xs:List V}(I:Inv X pins σ H s)(h:iV kd X.K H a xs):∃its:List Value,Vals xs its/\Zt.Sq kd s.heap a its.toArray:=by
 cases kd with
 |true=>obtain⟨i,r,p,z⟩:=I.list h;exact⟨i,r,p.isList⟩
 |false=>obtain⟨i,r,p,z⟩:=I.tuple h;exact⟨i,r,p⟩
def Inv.zV{X:Cx}{pins:Va}{σ:St}{H:Hp}{s:Shared}{kd:Bool}{a:Addr}{xs ys:List V}(I:Inv X pins σ H s)(h:iV kd X.K H a xs)(g:iV kd X.K H a ys):xs=ys:=by
 cases kd with
 |true=>exact I.Bq h g
 |false=>exact I.A8 h g
noncomputable def xI(ka kb:Bool)(K:Vo)(a b:Addr):It:=
  ⟨fun i H=>∃xs ys x y,iV ka K H a xs/\iV kb K H b ys/\xs[i]?=some x/\ys[i]?=some y,
   fun i H v H'=>∃p x y,v = .ref p/\H p=none/\H'=upd H p (.tup [x,y])/\∀xs ys,iV ka K H a xs->iV kb K H b ys->xs[i]?=some x/\ys[i]?=some y,
   fun i H=>∃xs ys,iV ka K H a xs/\iV kb K H b ys/\(xs.length<=i\/ys.length<=i)⟩
def oH{ka kb:Bool}{P:Program}{w:World}{K:Vo}{elts:List Expr}{k0:Nat}{AV:Pos}{z TI TO i1 i2 a b:Addr}(D:ZipApart z TI TO i1 i2 a b) :
  kH P w K (.Tuple elts k0 AV) (xI ka kb K a b) [z,TI,TO,i1,i2] z (fun i h=>IsZip h z TI TO .none/\IsPair h TI (.ref i1) (.ref i2)/\(∃x y,IsPair h TO x y)/\Zt.Si ka h i1 a i/\Zt.Si kb h i2 b i) where
 mem:=by simp
 obj:=fun i h st c hc=>by
  obtain⟨gz,gI,⟨x,y,gO⟩,g1,g2⟩:=st
  obtain⟨o1,_,e1,d1⟩:=g1.ob;obtain⟨o2,_,e2,d2⟩:=g2.ob
  simp only[F2,F9,GY]at hc
  rcases hc with rfl|rfl|rfl|rfl|rfl
  ·exact⟨_,gz,fun v q=>by cases q⟩
  ·exact⟨_,gI,fun v q=>by cases q⟩
  ·exact⟨_,gO,fun v q=>by cases q⟩
  ·exact⟨_,e1,fun v q=>by rw[d1]at q;cases q⟩
  ·exact⟨_,e2,fun v q=>by rw[d2]at q;cases q⟩
 keep:=fun i h h' st k=>by
  obtain⟨gz,gI,⟨x,y,gO⟩,g1,g2⟩:=st
  exact⟨k z (by simp) _ gz,k TI (by simp) _ gI,⟨x,y,k TO (by simp) _ gO⟩,g1.at fun o e=>k i1 (by simp) o e,g2.at fun o e=>k i2 (by simp) o e⟩
 item:=by
  intro X hP hw hK hc i pins s σ H E I hf st hg
  subst hP hw hK
  obtain⟨gz,gI,⟨ta,tb,gO⟩,g1,g2⟩:=st
  obtain⟨xs,ys,x,y,Cd,CG,hx,hy⟩:=hg
  obtain⟨ia,ra,pa⟩:=I.AB Cd
  obtain⟨ib,rb,pb⟩:=I.AB CG
  obtain⟨u,hu,ru⟩:=ra.get hx
  obtain⟨v,hv,rv⟩:=rb.get hy
  refine Zt.gg D gz gI gO g1 g2 pa pb (x:=u) (y:=v) (by simpa using hu) (by simpa using hv) fun g a1 a2 a3 a4 a5 a6=>?_
  refine⟨_,rfl,wpAny_letOwnedTupleGo_zip (s:={ s with heap:=g }) a1 fun g' z' q'=>?_⟩
  have kk:∀c o,c ∉ [z,TI,TO,i1,i2]->s.heap.get? c=some o->g'.get? c=some o:=fun c o hc e=>by
   simp only[F2,F9,GY,not_or]at hc
   exact q'.extBut _ _ hc.1 (a6 c o hc.1 hc.2.2.1 hc.2.2.2.1 hc.2.2.2.2 e)
  have I1:Inv X pins σ H { s with heap:=g' }:=I.AS (t':=s.toks) kk hf
  have f0:dM X pins H s.heap.objs.size:=I.A7 (FQ _) (I.hok.fresh (FQ _))
  have eT:zi g' s.heap.objs.size [u,v].toArray:=⟨_,q'.extBut _ _ (Hw (FU gz)) a5,rfl,rfl,_,rfl⟩
  have I2:=I1.BW f0 eT (.cons ru (.cons rv .nil)) (by show 2<=sizeLine;decide)
  refine⟨.ref s.heap.objs.size,_,I2,rfl,⟨s.heap.objs.size,x,y,rfl,f0.1,rfl,fun xs' ys' h1 h2=>by rw[I.zV h1 Cd,I.zV h2 CG];exact⟨hx,hy⟩⟩,
   ⟨z',q'.extBut _ _ D.TIz (a6 TI _ D.TIz D.TITO D.TIi1 D.TIi2 gI),⟨_,_,q'.extBut _ _ D.TOz a2⟩,a3.extBut q'.extBut D.i1z,a4.extBut q'.extBut D.i2z⟩,fun c hc=>?_⟩
  have hlt:c < s.heap.objs.size:=by
   obtain⟨_,_,e1,_⟩:=g1.ob
   obtain⟨_,_,e2,_⟩:=g2.ob
   simp only[F2,F9,GY]at hc
   rcases hc with rfl|rfl|rfl|rfl|rfl
   ·exact FU gz
   ·exact FU gI
   ·exact FU gO
   ·exact FU e1
   ·exact FU e2
  rw[ax (Ga hlt)]
  exact(hf c hc).1
 done:=by
  intro X hP hw hK hc i pins s σ H E I hf st hg
  subst hP hw hK
  obtain⟨gz,gI,⟨ta,tb,gO⟩,g1,g2⟩:=st
  obtain⟨xs,ys,Cd,CG,hl⟩:=hg
  obtain⟨ia,ra,pa⟩:=I.AB Cd
  obtain⟨ib,rb,pb⟩:=I.AB CG
  have la:=ra.length
  have lb:=rb.length
  refine Zt.ie (I.ok.hd hc) D gz gI gO g1 g2 pa pb ?_ fun g kk=>⟨rfl,I.AS (t':=s.toks) (fun c o hc e=>?_) hf⟩
  ·rcases hl with q|q
   ·exact .inl (by simp;omega)
   ·exact .inr (by simp;omega)
  ·simp only[F2,F9,GY,not_or]at hc
   exact kk c o hc.1 hc.2.2.1 hc.2.2.2.1 hc.2.2.2.2 e
 self:=fun _ _ _ _ _ st h=>Iu st.1 h
section
variable {X:Cx}
def xJ(K:Vo)(ta:TA):TI:=fun σ H R=>ta σ H fun vs H1=>∃ka kb a b,vs=[.ref a,.ref b]/\(∃xs,iV ka K H1 a xs)/\(∃ys,iV kb K H1 b ys)/\R (xI ka kb K a b) H1
def t6{elts:List Expr}{k0:Nat}{AV:Pos}{a b:Expr}{ta:TA}{p pos:Pos}(hg:Gl X "zip")(hm:X.mg "zip" = none)(hv:bootBuiltins "zip" = some (.type "zip"))(ha:PA X [a,b] ta)
  (hs:starEach [a,b] X.env=[(false,eval a X.env),(false,eval b X.env)]:=by rfl) (hs2:starEach [b] X.env=[(false,eval b X.env)]:=by rfl):PI X (.Tuple elts k0 AV) (.Call (.Name "zip" p) [a,b] [] pos) (xJ X.K ta):=by
 intro pins s σ H R I h
 refine Call_ (fg I hg hm hv (Gx (yK (ha pos pins s σ H _ I h) fun us s1 ⟨vs,H1,I1,r1,q1⟩=>?_) (by rw[hs,hs2]) (by rw[hs2];rfl)))
 obtain⟨ka,kb,a,b,e,⟨xs,qa⟩,⟨ys,qb⟩,q⟩:=q1
 subst e
 obtain⟨u,v,rfl,ru,rv⟩:=og r1
 cases ru
 cases rv
 obtain⟨ia,ra,pa⟩:=I1.AB qa
 obtain⟨ib,rb,pb⟩:=I1.AB qb
 have la:a < s1.heap.objs.size:=pa.lt
 have lb:b < s1.heap.objs.size:=pb.lt
 refine Zt.ig pa pb fun g gz gI gO g1 g2 kk=>?_
 refine Iu (s:={ s1 with heap:=g }) gz ?_
 refine⟨_,[s1.heap.objs.size+4,s1.heap.objs.size+2,s1.heap.objs.size+3,s1.heap.objs.size,s1.heap.objs.size+1],_,_,H1,rfl,I1.kept (t':=s1.toks) kk,oH (zipApart_new la lb),⟨gz,gI,⟨_,_,gO⟩,g1,g2⟩,fun c hc=>?_,q⟩
 have hle:s1.heap.objs.size<=c:=by
  simp only[F2,F9,GY]at hc
  rcases hc with rfl|rfl|rfl|rfl|rfl
  ·exact GJ _ _
  ·exact GJ _ _
  ·exact GJ _ _
  ·exact FQ _
  ·exact GJ _ _
 exact I1.A7 hle (I1.hok.fresh hle)
end
section
variable {env:Env} {rest:List Expr} {pos:Pos}
def m_{a:Expr}{gs:List Comprehension}{sc:Scope}:starEach (.ListComp a gs sc pos::rest) env=(false,eval (.ListComp a gs sc pos) env)::starEach rest env:=rfl
end
end L2
namespace Et
open PySem
open Sem (wp)
open AutoSeq1 (wpAny_loadPart')
end Et
namespace L2
open PySem PySem.Spec PyProof.Rows
end L2
namespace Wd
open PySem L2 PyProof.Rows
noncomputable def abc:Str:="abcdefghijklmnopqrstuvwxyz"
noncomputable def zq:List Str:=["jars","deed","rest","pay","put","then","either","take","often","use"]
def t8:∀i,i < 26->abc.cps.toList[i]?=some (97+i):=by decide +kernel
def gY:abc.length<=sizeLine/\abc.cps.toList.length=26:=by decide +kernel
def oI:∀i,i < 26->Builtin.Str.occurrences abc (jT (97+i)) 0 abc.length 1=[i]:=by decide +kernel
theorem mn{α:Type} [BEq α] [LawfulBEq α]:∀{xs ys:List α},xs.Nodup->(∀x∈xs,x∈ys)->xs.length<=ys.length
 |[],ys,_,_=>Gv _
 |x::xs,ys,nd,h=>by
  have hx:=h x (GR ..)
  have q:=mn (xs:=xs) (ys:=ys.erase x) (Ho.mp nd).2 fun y hy=>by
   have ne:y≠x:=fun e=>(Ho.mp nd).1 (e▸hy)
   exact(List.mem_erase_of_ne ne).mpr (h y (GX _ hy))
  rw[List.length_erase_of_mem hx]at q
  have:=List.length_pos_of_mem hx
  rw[F7]
  omega
noncomputable def cand(r:List Nat)(i:Nat):Str:=⟨((97+i % 26)::r).toArray⟩
def oJ{r:List Nat}{i j:Nat}(h:cand r i=cand r j):i % 26=j % 26:=by
 have e:(((97+i % 26)::r).toArray).toList=(((97+j % 26)::r).toArray).toList:=Gy (fun z:Str=>z.cps.toList) h
 simp only[List.cons.injEq]at e
 omega
def lH(r:List Nat)(c:Nat):((List.range 26).map fun i=>cand r (c+i)).Nodup:=by
 refine List.pairwise_map.mpr (List.Pairwise.imp_of_mem (R:=(·≠·)) ?_ List.nodup_range)
 intro a b ha hb ne e
 have h1:=HZ.mp ha
 have h2:=HZ.mp hb
 have h3:=oJ e
 omega
def na(r:List Nat)(c:Nat)(bad:Vs)(h:bad.length < 26):∃j,j < 26/\cand r (c+j) ∉ bad:=by
 refine Classical.byContradiction fun no=>?_
 have q:=mn (lH r c) (ys:=bad) fun x hx=>by
  obtain⟨j,hj,rfl⟩:=Gg.mp hx
  exact Classical.byContradiction fun z=>no ⟨j,HZ.mp hj,z⟩
 rw[FZ,Ik]at q
 omega
structure Bn (z:Str):Prop where
 ne:z.cps.toList≠[]
 le:z.cps.toList.length<=6
 sm:∀c∈z.cps.toList,97<=c/\c<=122
theorem Bn.cand{z:Str}(h:Bn z):∃i r,z=Wd.cand r i/\i < 26/\r.length<=5/\∀c∈r,97<=c/\c<=122:=by
 obtain⟨⟨⟨l⟩⟩,ne,le,sm⟩:∃z',_/\_/\_:=⟨z,h.ne,h.le,h.sm⟩
 obtain⟨⟨l⟩⟩:=z
 cases l with
 |nil=>exact absurd rfl h.ne
 |cons c r=>
  have q:=h.sm c (GR ..)
  refine⟨c - 97,r,?_,by omega,by have:=h.le;simp at this;omega,fun d hd=>h.sm d (GX _ hd)⟩
  unfold Wd.cand
  rw[show 97+(c - 97) % 26=c by omega]
def oK{r:List Nat}(h:r.length<=5)(hs:∀c∈r,97<=c/\c<=122)(i:Nat):Bn (cand r i):=by
 refine⟨by simp[cand],by simp[cand];omega,fun c hc=>?_⟩
 have hc':c∈(97+i % 26)::r:=hc
 rcases F2.mp hc' with e|e
 ·omega
 ·exact hs c e
def Bn.len{z:Str}(h:Bn z):z.length<=6:=by have q:=h.le;rw[IL]at q;exact q
def Bn.line{z:Str}(h:Bn z):z.length<=sizeLine:=F6 h.len (by decide)
def jo(r:List Nat)(i:Nat):zp (cand r i).cps.toList 0=some (97+i % 26):=bq (j:=0) rfl
def eN(r:List Nat)(i:Nat):Txt.slice (cand r i) (some 1) none=⟨r.toArray⟩:=by
 have e:Txt.slice (cand r i) (some 1) none=StrLaws.sliceText (cand r i) (some 1) none:=rfl
 rw[e,StrLaws.sliceText_from ⟨by decide,by simp[cand];omega⟩]
 simp[cand]
def jp(r:List Nat)(i:Nat):(jT (97+(i+1) % 26):Str)++(⟨r.toArray⟩:Str)=cand r (i+1):=by
 refine Str.ext' ?_
 show #[97+(i+1) % 26]++r.toArray=_
 simp[cand]
def jV(i:Nat):zp abc.cps.toList ((i % 26:Nat):Int)=some (97+i % 26):=bq (t8 _ (Nat.mod_lt _ (by decide)))
def ij(cs:List Nat):Txt.join "" (cs.map jT)=⟨cs.toArray⟩:=by
 have q:=join_nil_signs ⟨cs.toArray⟩
 have e:Txt.join "" (cs.map jT)=Str.join ⟨#[]⟩ (cs.map jT):=StrLaws.glued_eq_join _ _
 rw[e]
 exact q
def rA(cs:List Nat):((cs.map jT).map (·.length)).sum=cs.length:=by
 induction cs with
 |nil=>rfl
 |cons c r ih=>rw[Gd,Gd,List.sum_cons,ih,F7];show 1+r.length=_;omega
def rB{cs:List Nat}{a i:Nat}(h:cs.length<=5)(hs:∀c∈cs,97<=c/\c<=122)(ha:a<=cs.length)(hi:i < 26) :
  Bn (Txt.slice ⟨cs.toArray⟩ none (some (a:Int))++(jT (97+i):Str)++Txt.slice ⟨cs.toArray⟩ (some (a:Int)) none)/\(Txt.slice ⟨cs.toArray⟩ none (some (a:Int))).length<=5/\(Txt.slice ⟨cs.toArray⟩ (some (a:Int)) none).length<=5:=by
 have e1:Txt.slice ⟨cs.toArray⟩ none (some (a:Int))=⟨(cs.take a).toArray⟩:=by
  have e:Txt.slice ⟨cs.toArray⟩ none (some (a:Int))=StrLaws.sliceText ⟨cs.toArray⟩ none (some (a:Int)):=rfl
  rw[e,StrLaws.sliceText_to ⟨by omega,by simp;omega⟩]
  simp
 have e2:Txt.slice ⟨cs.toArray⟩ (some (a:Int)) none=⟨(cs.drop a).toArray⟩:=by
  have e:Txt.slice ⟨cs.toArray⟩ (some (a:Int)) none=StrLaws.sliceText ⟨cs.toArray⟩ (some (a:Int)) none:=rfl
  rw[e,StrLaws.sliceText_from ⟨by omega,by simp;omega⟩]
  refine Str.ext' ?_
  show((cs.drop (a:Int).toNat).take ((cs.length:Int) - a).toNat).toArray=(cs.drop a).toArray
  rw[GO,List.take_of_length_le (by rw[GU];omega)]
 rw[e1,e2]
 have e3:((⟨(cs.take a).toArray⟩:Str)++(jT (97+i):Str)++(⟨(cs.drop a).toArray⟩:Str)).cps.toList=cs.take a++[97+i]++cs.drop a:=by
  show((cs.take a).toArray++#[97+i]++(cs.drop a).toArray).toList=_
  simp
 refine⟨⟨by rw[e3];simp,by rw[e3];simp;omega,fun c hc=>?_⟩,?_,?_⟩
 ·rw[e3]at hc
  rcases Gh.mp hc with hc|hc
  ·rcases Gh.mp hc with hc|hc
   ·exact hs c (GZ hc)
   ·rw[Gi.mp hc];omega
  ·exact hs c (HF hc)
 ·show(cs.take a).toArray.size<=5
  rw[FY,GS];omega
 ·show(cs.drop a).toArray.size<=5
  rw[FY,GU];omega
end Wd
namespace M3
noncomputable def bc(t b:Int):Int:=(if b < 0 then -t else t) / (Int.gcd t b:Int)
noncomputable def aO(t b:Int):Int:=(if b < 0 then -b else b) / (Int.gcd t b:Int)
def eO{t b:Int}(h:b≠0):0 < Int.gcd t b:=Nat.gcd_pos_of_pos_right _ (by omega)
def oM{t b:Int}(h:b≠0):(Int.gcd t b:Int)<=b.natAbs:=by
 have q:Nat.gcd t.natAbs b.natAbs<=b.natAbs:=Nat.gcd_le_right _ (by omega)
 have e:Int.gcd t b=Nat.gcd t.natAbs b.natAbs:=rfl
 omega
def oN(t b:Int):Int.gcd (-t) (-b)=Int.gcd t b:=by rw[Int.gcd_neg,Int.neg_gcd]
def sA(t b:Int):∃x y:Int,t=(Int.gcd t b:Int) * x/\b=(Int.gcd t b:Int) * y:=by
 obtain⟨x,hx⟩:=Int.gcd_dvd_left t b
 obtain⟨y,hy⟩:=Int.gcd_dvd_right t b
 exact⟨x,y,hx,hy⟩
def lI{t b x y g:Int}(hg:g=(Int.gcd t b:Int))(h:b≠0)(ht:t=g * x)(hb:b=g * y):bc t b=(if y < 0 then -x else x)/\aO t b=(if y < 0 then -y else y):=by
 have gp:0 < g:=by rw[hg];exact HP.mpr (eO h)
 have hy:b < 0↔y < 0:=by
  rw[hb]
  constructor
  ·intro q
   by_cases z:y < 0
   ·exact z
   ·have:=G0 (G8 gp) (Int.not_lt.mp z)
    omega
  ·intro q
   exact Int.mul_neg_of_pos_of_neg gp q
 unfold bc aO
 rw[<-hg]
 by_cases z:y < 0
 ·rw[if_pos (hy.mpr z),if_pos (hy.mpr z),if_pos z,if_pos z]
  constructor
  ·rw[ht,<-Int.mul_neg,Ht _ (by omega)]
  ·rw[hb,<-Int.mul_neg,Ht _ (by omega)]
 ·rw[if_neg (fun q=>z (hy.mp q)),if_neg (fun q=>z (hy.mp q)),if_neg z,if_neg z]
  constructor
  ·rw[ht,Ht _ (by omega)]
  ·rw[hb,Ht _ (by omega)]
def rC{t b x y:Int}(h:b≠0)(ht:t=(Int.gcd t b:Int) * x)(hb:b=(Int.gcd t b:Int) * y):Int.gcd x y=1:=by
 have gp:=eO (t:=t) h
 have q:Int.gcd ((Int.gcd t b:Int) * x) ((Int.gcd t b:Int) * y)=(Int.gcd t b:Int).natAbs * Int.gcd x y:=Int.gcd_mul_left _ _ _
 rw[<-ht,<-hb,Int.natAbs_natCast]at q
 have q2:Int.gcd t b * 1=Int.gcd t b * Int.gcd x y:=by omega
 exact(Nat.eq_of_mul_eq_mul_left gp q2).symm
structure wL (a b:Int):Prop where
 pos:0 < b
 one:Int.gcd a b=1
def jW{t b:Int}(h:b≠0):wL (bc t b) (aO t b):=by
 obtain⟨x,y,ht,hb⟩:=sA t b
 have c:=rC h ht hb
 obtain⟨e1,e2⟩:=lI rfl h ht hb
 have y0:y≠0:=fun z=>h (by rw[hb,z,IU])
 rw[e1,e2]
 by_cases z:y < 0
 ·rw[if_pos z,if_pos z]
  exact⟨by omega,by rw[oN];exact c⟩
 ·rw[if_neg z,if_neg z]
  exact⟨by omega,c⟩
def fi{a b x y:Int}(L:wL a b)(hy:0 < y)(e:x * b=a * y):bc x y=a/\aO x y=b:=by
 have b0:=L.pos
 have d1:b.natAbs ∣ a.natAbs * y.natAbs:=by
  rw[<-Int.natAbs_mul,<-e,Int.natAbs_mul]
  exact Nat.dvd_mul_left _ _
 have c:Nat.Coprime b.natAbs a.natAbs:=by
  show Nat.gcd b.natAbs a.natAbs=1
  rw[Nat.gcd_comm]
  exact L.one
 obtain⟨k,hk⟩:=Int.natAbs_dvd_natAbs.mp (c.dvd_of_dvd_mul_left d1)
 have k0:0 < k:=by
  by_cases z:0 < k
  ·exact z
  ·have:=G0 (G8 b0) (show 0 <= -k by omega)
   rw[Int.mul_neg]at this
   omega
 have hx:x=a * k:=by
  have q:x * b=a * k * b:=by rw[e,hk,I9,Il k b]
  exact Int.eq_of_mul_eq_mul_right (by omega) q
 have g:(Int.gcd x y:Int)=k:=by
  rw[hx,hk,Int.gcd_mul_right,L.one,Nat.one_mul]
  omega
 have q:=lI (g:=k) (x:=a) (y:=b) (t:=x) (b:=y) g.symm (by omega) (by rw[hx,Il]) (by rw[hk,Il])
 rw[if_neg (by omega),if_neg (by omega)]at q
 exact q
def nb{t b:Int}(h:b≠0):bc t b * b=t * aO t b:=by
 obtain⟨x,y,ht,hb⟩:=sA t b
 obtain⟨e1,e2⟩:=lI rfl h ht hb
 rw[e1,e2]
 have q:x * b=t * y:=by
  have e3:x * ((Int.gcd t b:Int) * y)=(Int.gcd t b:Int) * x * y:=by rw[<-I9,Il x]
  rw[<-ht,<-hb]at e3
  exact e3
 by_cases z:y < 0
 ·rw[if_pos z,if_pos z,IA,Int.mul_neg,q]
 ·rw[if_neg z,if_neg z]
  exact q
def kM{t b:Int}(h:b≠0):t.fdiv (if b < 0 then -(Int.gcd t b:Int) else (Int.gcd t b:Int))=bc t b/\b.fdiv (if b < 0 then -(Int.gcd t b:Int) else (Int.gcd t b:Int))=aO t b:=by
 have gp:(0:Int) < (Int.gcd t b:Int):=HP.mpr (eO h)
 have d1:=Int.gcd_dvd_left t b
 have d2:=Int.gcd_dvd_right t b
 unfold bc aO
 by_cases z:b < 0
 ·rw[if_pos z,if_pos z,if_pos z,Int.fdiv_neg (by omega),if_pos d1,Int.fdiv_neg (by omega),if_pos d2,Hu d1,Hu d2,Int.neg_ediv_of_dvd d1,Int.neg_ediv_of_dvd d2]
  exact⟨rfl,rfl⟩
 ·rw[if_neg z,if_neg z,if_neg z,Hu d1,Hu d2]
  exact⟨rfl,rfl⟩
def kN(x y:Int):Int.gcd y (x.fmod y)=Int.gcd x y:=by
 have q:=Int.mul_fdiv_add_fmod x y
 have e:Int.gcd y (x.fmod y+x.fdiv y * y)=Int.gcd y (x.fmod y):=Int.gcd_add_mul_right_right _ _ _
 rw[<-e,Il (x.fdiv y) y,Int.add_comm,q,Int.gcd_comm]
def oO{t b T B:Int}(h:b≠0)(h1:-T<=t)(h2:t<=T)(h3:-B<=b)(h4:b<=B)(hT:0<=T)(hB:0<=B):-T<=bc t b/\bc t b<=T/\0 < aO t b/\aO t b<=B:=by
 have gp:(0:Int) < (Int.gcd t b:Int):=HP.mpr (eO h)
 have L:=(jW (t:=t) h).pos
 have key:∀z M:Int,0<=M->-M<=z->z<=M->-M<=z / (Int.gcd t b:Int)/\z / (Int.gcd t b:Int)<=M:=fun z M hM z1 z2=>by
  generalize (Int.gcd t b:Int)=g at gp
  have m2:M * 1<=M * g:=GC (by omega) hM
  have m3:-M * g = -(M * g):=IA M g
  exact⟨Int.le_ediv_of_mul_le gp (by omega),Int.ediv_le_of_le_mul gp (by omega)⟩
 have k1:=key (if b < 0 then -t else t) T hT (by split<;>omega) (by split<;>omega)
 have k2:=key (if b < 0 then -b else b) B hB (by split<;>omega) (by split<;>omega)
 exact⟨k1.1,k1.2,L,k2.2⟩
end M3
namespace Xc
open PySem PySem.W PySem.Calls PyProof.Rows Builtin Builtin.ObjectAttr
structure xK (h:Heap) (e:Addr) (oe:Obj) (vs:Vw):Prop where
 at_:h.get? e=some oe
 dat:oe.data = .fields vs
 tb:vs[1]?=some .none\/∃T oT ts,vs[1]?=some (.ref T)/\T≠e/\h.get? T=some oT/\oT.data = .fields ts/\ts[3]?=some .none
end Xc
namespace L2
open PySem PySem.Spec PyProof.Rows Xc
def yr(X:Cx)(pins:Va)(H:Hp)(h:Heap)(a C dx:Addr):Prop:=
 ∃oe vs,xK h a oe vs/\oe.cls = .ref C/\oe.dict=some dx/\dM X pins H a/\∀T,vs[1]?=some (.ref T)->dM X pins H T
def XD(dx:Addr)(fs:List (Str×V))(h:Heap):Prop:=∃mA,h.Ns1 dx mA/\(∀f,RelO (fs.lookup f) (mA f))/\PySem.Within mA (fs.map (·.1))
end L2
namespace L3
open PySem L2
inductive PV where
 |non|bl (b:Bool)|int (i:Int)|str (x:Str)|tup (xs:List PV)|cl (xs:List PV)|ref (a:Addr)|ty (n:String)|exc (c:Str) (ks:Vs) (ps:List PV)|cls (c:Str)
def CV(K:Vo)(H:Hp)(a:Addr)(xs:List V):Prop:=
 (∃o,H a=some (.frz o (.lst xs))) \/
  ∃(o:Obj) (its:Vw) (n:Nat),K.lookup a=some o/\o.cls = .type "list"/\o.dict=none/\o.data = .seq its n/\its.size<=sizeLine/\Vals xs its.toList
def CV.sq{K:Vo}{H:Hp}{a:Addr}{xs:List V}(h:CV K H a xs):SqL K H a xs:=h.elim (fun z=>.inl (.inr z)) .inr
def Dt(H:Hp)(a C:Addr)(ks:Vs)(vs:List V):Prop:=
 ∃oe dx od,H a=some (.frz oe (.ext fun _=>True))/\oe.cls = .ref C/\oe.dict=some dx/\(∀c,oe.data ≠ .cls c)/\H dx=some (.frz od (.ext (XD dx (ks.zip vs))))
def rD(K:Vo)(c:Str)(C:Addr):Prop:=PySem.W.nsIn K mainGlobals c=some (some (.ref C))
mutual
inductive Rep (K:Vo) (H:Hp):V->PV->Prop
 |non:Rep K H .non .non
 |bl (b:Bool):Rep K H (.bl b) (.bl b)
 |int (i:Int):Rep K H (.int i) (.int i)
 |str (x:Str):Rep K H (.str x) (.str x)
 |ty (n:String):Rep K H (.ty n) (.ty n)
 |ref (a:Addr):Rep K H (.ref a) (.ref a)
 |tup {a:Addr} {vs:List V} {ps:List PV}:SqT K H a vs->Reps K H vs ps->Rep K H (.ref a) (.tup ps)
 |cl {a:Addr} {vs:List V} {ps:List PV}:CV K H a vs->Reps K H vs ps->Rep K H (.ref a) (.cl ps)
 |exc {a C:Addr} {c:Str} {ks:Vs} {vs:List V} {ps:List PV}:rD K c C->Dt H a C ks vs->Reps K H vs ps->Rep K H (.ref a) (.exc c ks ps)
 |cls {C:Addr} {c:Str}:rD K c C->Rep K H (.ref C) (.cls c)
inductive Reps (K:Vo) (H:Hp):List V->List PV->Prop
 |nil:Reps K H [] []
 |cons {v:V} {p:PV} {vs:List V} {ps:List PV}:Rep K H v p->Reps K H vs ps->Reps K H (v::vs) (p::ps)
end
structure Grow (K:Vo) (H H':Hp):Prop where
 t:∀a vs,SqT K H a vs->SqT K H' a vs
 c:∀a vs,CV K H a vs->CV K H' a vs
 x:∀a o u,H a=some (.frz o u)->H' a=some (.frz o u)
def Grow.refl{K:Vo}{H:Hp}:Grow K H H:=⟨fun _ _ h=>h,fun _ _ h=>h,fun _ _ _ h=>h⟩
def Grow.trans{K:Vo}{H H1 H2:Hp}(a:Grow K H H1)(b:Grow K H1 H2):Grow K H H2:=⟨fun x vs h=>b.t x vs (a.t x vs h),fun x vs h=>b.c x vs (a.c x vs h),fun x o u h=>b.x x o u (a.x x o u h)⟩
def Dt.mono{K:Vo}{H H':Hp}(g:Grow K H H'){a C:Addr}{ks:Vs}{vs:List V}(h:Dt H a C ks vs):Dt H' a C ks vs:=let ⟨oe,dx,od,h1,h2,h3,h4,h5⟩:=h;⟨oe,dx,od,g.x _ _ _ h1,h2,h3,h4,g.x _ _ _ h5⟩
def Grow.of{K:Vo}{H H':Hp}(h:∀a xs,H a=some (.tup xs)->H' a=some (.tup xs))(h2:∀a o u,H a=some (.frz o u)->H' a=some (.frz o u)):Grow K H H':=by
 refine⟨fun a vs q=>?_,fun a vs q=>?_,h2⟩
 ·rcases q with(q|⟨o,q⟩)|q
  ·exact .inl (.inl (h a vs q))
  ·exact .inl (.inr ⟨o,h2 a o _ q⟩)
  ·exact .inr q
 ·rcases q with⟨o,q⟩|q
  ·exact .inl ⟨o,h2 a o _ q⟩
  ·exact .inr q
def Grow.same{K:Vo}{H H':Hp}(h:∀c o,H c=some o->H' c=some o):Grow K H H':=.of (fun a _ q=>h a _ q) (fun a _ _ q=>h a _ q)
def Grow.new{K:Vo}{H:Hp}{p:Addr}{o:HO}(h:H p=none):Grow K H (upd H p o):=.same fun c u q=>by rw[ax (aN q h)];exact q
noncomputable def Mu:HO->Prop
 | .tup _=>False
 | .frz _ _=>False
 |_=>True
def Grow.mut{K:Vo}{H:Hp}{p:Addr}{o u:HO}(h:H p=some u)(m:Mu u):Grow K H (upd H p o):=
 .of (fun a xs q=>by rw[ax (fun e=>by subst e;rw[h]at q;cases q;exact m)];exact q) (fun a _ _ q=>by rw[ax (fun e=>by subst e;rw[h]at q;cases q;exact m)];exact q)
mutual
theorem Rep.mono{K:Vo}{H H':Hp}(g:Grow K H H'):∀{v:V} {p:PV},Rep K H v p->Rep K H' v p
 |_,_,.non=>.non
 |_,_,.bl b=>.bl b
 |_,_,.int i=>.int i
 |_,_,.str x=>.str x
 |_,_,.ty n=>.ty n
 |_,_,.ref a=>.ref a
 |_,_,.tup h r=>.tup (g.t _ _ h) (Reps.mono g r)
 |_,_,.cl h r=>.cl (g.c _ _ h) (Reps.mono g r)
 |_,_,.exc n h r=>.exc n (h.mono g) (Reps.mono g r)
 |_,_,.cls n=>.cls n
theorem Reps.mono{K:Vo}{H H':Hp}(g:Grow K H H'):∀{vs:List V} {ps:List PV},Reps K H vs ps->Reps K H' vs ps
 |_,_,.nil=>.nil
 |_,_,.cons a r=>.cons (Rep.mono g a) (Reps.mono g r)
end
theorem Reps.length{K:Vo}{H:Hp}:∀{vs:List V} {ps:List PV},Reps K H vs ps->vs.length=ps.length
 |_,_,.nil=>rfl
 |_,_,.cons _ r=>by rw[F7,F7,Reps.length r]
theorem Reps.append{K:Vo}{H:Hp}:∀{vs us:List V} {ps qs:List PV},Reps K H vs ps->Reps K H us qs->Reps K H (vs++us) (ps++qs)
 |_,_,_,_,.nil,s=>s
 |_,_,_,_,.cons a r,s=>.cons a (Reps.append r s)
theorem Reps.get{K:Vo}{H:Hp}:∀{vs:List V} {ps:List PV} {i:Nat} {p:PV},Reps K H vs ps->ps[i]?=some p->∃v,vs[i]?=some v/\Rep K H v p
 |_,_,_,_,.nil,e=>by simp at e
 |_,_,0,_,.cons a r,e=>by simp at e;subst e;exact⟨_,rfl,a⟩
 |_,_,i+1,p,.cons a r,e=>by
  obtain⟨v,h1,h2⟩:=Reps.get (i:=i) (p:=p) r (by simpa using e)
  exact⟨v,by simpa using h1,h2⟩
theorem Reps.take{K:Vo}{H:Hp}:∀{vs:List V} {ps:List PV} (n:Nat),Reps K H vs ps->Reps K H (vs.take n) (ps.take n)
 |_,_,0,_=>.nil
 |_,_,_+1,.nil=>.nil
 |_,_,n+1,.cons a r=>.cons a (Reps.take n r)
theorem Reps.drop{K:Vo}{H:Hp}:∀{vs:List V} {ps:List PV} (n:Nat),Reps K H vs ps->Reps K H (vs.drop n) (ps.drop n)
 |_,_,0,r=>r
 |_,_,_+1,.nil=>.nil
 |_,_,n+1,.cons _ r=>Reps.drop n r
theorem Reps.set{K:Vo}{H:Hp}{v:V}{p:PV}(q:Rep K H v p):∀{vs:List V} {ps:List PV} (n:Nat),Reps K H vs ps->Reps K H (vs.set n v) (ps.set n p)
 |_,_,_,.nil=>.nil
 |_,_,0,.cons _ r=>.cons q r
 |_,_,n+1,.cons a r=>.cons a (Reps.set q n r)
theorem Reps.eraseIdx{K:Vo}{H:Hp}:∀{vs:List V} {ps:List PV} (n:Nat),Reps K H vs ps->Reps K H (vs.eraseIdx n) (ps.eraseIdx n)
 |_,_,_,.nil=>.nil
 |_,_,0,.cons _ r=>r
 |_,_,n+1,.cons a r=>.cons a (Reps.eraseIdx n r)
theorem Reps.reverse{K:Vo}{H:Hp}:∀{vs:List V} {ps:List PV},Reps K H vs ps->Reps K H vs.reverse ps.reverse
 |_,_,.nil=>.nil
 |_,_,.cons a r=>by rw[Ii,Ii];exact(Reps.reverse r).append (.cons a .nil)
theorem Reps.dropLast{K:Vo}{H:Hp}{vs:List V}{ps:List PV}(r:Reps K H vs ps):Reps K H vs.dropLast ps.dropLast:=by
 rw[List.dropLast_eq_take,List.dropLast_eq_take,r.length]
 exact r.take _
inductive SO where
 |lst (xs:List PV)
 |dct (kvs:List (bt×PV))
 |ins (c:Str) (fs:List (Str×PV))
abbrev au:=Addr->Option SO
noncomputable def aw(S:au)(a:Addr)(o:SO):au:=fun b=>if b=a then some o else S b
def ab{S:au}{a:Addr}{o:SO}:aw S a o a=some o:=by unfold aw;rw[if_pos rfl]
def al{S:au}{a b:Addr}{o:SO}(h:b≠a):aw S a o b=S b:=by unfold aw;rw[if_neg h]
inductive yU (K:Vo) (H:Hp) {κ:Type}:List (κ×V)->List (κ×PV)->Prop
 |nil:yU K H [] []
 |cons {k:κ} {v:V} {p:PV} {vs:List (κ×V)} {ps:List (κ×PV)}:Rep K H v p->yU K H vs ps->yU K H ((k,v)::vs) ((k,p)::ps)
theorem yU.mono{K:Vo}{H H':Hp}(g:Grow K H H'){κ:Type}:∀{vs:List (κ×V)} {ps:List (κ×PV)},yU K H vs ps->yU K H' vs ps
 |_,_,.nil=>.nil
 |_,_,.cons a r=>.cons (a.mono g) (yU.mono g r)
theorem yU.length{K:Vo}{H:Hp}{κ:Type}:∀{vs:List (κ×V)} {ps:List (κ×PV)},yU K H vs ps->vs.length=ps.length
 |_,_,.nil=>rfl
 |_,_,.cons _ r=>by rw[F7,F7,yU.length r]
noncomputable def Br(K:Vo)(H:Hp)(a:Addr):SO->Prop
 | .lst xs=>∃vs,H a=some (.lst vs)/\Reps K H vs xs
 | .dct kvs=>∃kv,H a=some (.dK kv)/\yU K H kv kvs
 | .ins c fs=>∃C dx f',rD K c C/\H a=some (.ins C dx f')/\yU K H f' fs
theorem Br.stay{K:Vo}{H H':Hp}(g:Grow K H H'){a:Addr}(e:H' a=H a):∀{o:SO},Br K H a o->Br K H' a o
 | .lst _,⟨vs,h,r⟩=>⟨vs,e.trans h,r.mono g⟩
 | .dct _,⟨vs,h,r⟩=>⟨vs,e.trans h,r.mono g⟩
 | .ins _ _,⟨C,dx,vs,n,h,r⟩=>⟨C,dx,vs,n,e.trans h,r.mono g⟩
theorem Br.some{K:Vo}{H:Hp}{a:Addr}:∀{o:SO},Br K H a o->∃u,H a=Option.some u/\Mu u
 | .lst _,⟨_,h,_⟩=>⟨_,h,trivial⟩
 | .dct _,⟨_,h,_⟩=>⟨_,h,trivial⟩
 | .ins _ _,⟨_,_,_,_,h,_⟩=>⟨_,h,trivial⟩
def yH(K:Vo)(H:Hp)(S:au):Prop:=∀a o,S a=some o->Br K H a o
def yH.free{K:Vo}{H:Hp}{S:au}(r:yH K H S){p:Addr}(h:H p=none):S p=none:=by
 cases e:S p with
 |none=>rfl
 |some o=>
  obtain⟨u,q,_⟩:=(r p o e).some
  rw[h]at q;cases q
def yH.grow{K:Vo}{H H':Hp}{S:au}(r:yH K H S)(h:∀c o,H c=some o->H' c=some o):yH K H' S:=fun a o e=>by
 obtain⟨u,q,_⟩:=(r a o e).some
 exact(r a o e).stay (.same h) ((h a u q).trans q.symm)
def yH.other{K:Vo}{H:Hp}{S:au}(r:yH K H S){p:Addr}{o:HO}(h:H p=none):yH K (upd H p o) S:=r.grow fun c u q=>by rw[ax (aN q h)];exact q
theorem yH.new{K:Vo}{H:Hp}{S:au}(r:yH K H S){p:Addr}{u:HO}{o:SO}(h:H p=none)(q:Br K (upd H p u) p o):yH K (upd H p u) (aw S p o):=fun a x e=>by
 by_cases z:a=p
 ·subst z;rw[ab]at e;cases e;exact q
 ·rw[al z]at e;exact(r a x e).stay (.new h) (ax z)
def yH.put{K:Vo}{H:Hp}{S:au}(r:yH K H S){p:Addr}{u0 u:HO}{o:SO}(h:H p=some u0)(m:Mu u0)(q:Br K (upd H p u) p o):yH K (upd H p u) (aw S p o):=fun a x e=>by
 by_cases z:a=p
 ·subst z;rw[ab]at e;cases e;exact q
 ·rw[al z]at e;exact(r a x e).stay (.mut h m) (ax z)
abbrev bV:=List (Option PV)
noncomputable def lk:bV->Nat->Option PV
 |[],_=>none
 |x::_,0=>x
 |_::r,i+1=>lk r i
def oP{σ:bV}{i:Nat}{p:PV}(h:lk σ i=some p):σ[i]?=some (some p):=by
 induction σ generalizing i with
 |nil=>cases h
 |cons x r ih=>
  cases i with
  |zero=>exact Gy some h
  |succ i=>exact ih h
structure yL (K:Vo) (H:Hp) (σ:St) (σ3:bV):Prop where
 len:σ.length=σ3.length
 at':∀(i:Nat) (p:PV),σ3[i]?=some (some p)->∃v,σ[i]?=some (some v)/\Rep K H v p
theorem yL.mono{K:Vo}{H H':Hp}{σ:St}{σ3:bV}(r:yL K H σ σ3)(g:Grow K H H'):yL K H' σ σ3:=⟨r.len,fun i p e=>let ⟨v,h,q⟩:=r.at' i p e;⟨v,h,q.mono g⟩⟩
theorem yL.set{K:Vo}{H:Hp}{σ:St}{σ3:bV}(r:yL K H σ σ3){v:V}{p:PV}(q:Rep K H v p)(i:Nat):yL K H (σ.set i (some v)) (σ3.set i (some p)):=by
 refine⟨by rw[List.length_set,List.length_set,r.len],fun j x e=>?_⟩
 rw[List.getElem?_set]at e ⊢
 split at e
 ·rename_i hij
  rw[if_pos hij]
  subst hij
  split at e
  ·rename_i hl
   cases e
   rw[if_pos (by rw[r.len];exact hl)]
   exact⟨v,rfl,q⟩
  ·cases e
 ·rename_i hij
  rw[if_neg hij]
  exact r.at' j x e
abbrev bY:=PV->au->Prop
abbrev ci:=PV->bV->au->Prop
abbrev aT:=bV->au->bY->ci->Prop
abbrev gV:=bV->au->(Bool->au->Prop)->ci->Prop
abbrev yt:=bV->au->(List PV->au->Prop)->ci->Prop
structure kO where
 nx:bV->au->Prop
 rt:bY
 ex:ci
 bk:bV->au->Prop:=fun _ _=>False
 ct:bV->au->Prop:=fun _ _=>False
abbrev bx:=kO->bV->au->Prop
def BO(X:Cx)(H:Hp)(E:ci):Prop:=∀(c:Str) (ks:Vs) (ps:List PV) (σ3:bV) (S':au) (H':Hp) (pins:Va) (σ:St) (s':Shared) (a C dx:Addr) (od:Obj) (vs:List V),E (.exc c ks ps) σ3 S'->rD X.K c C->vs.length=ks.length->
 H' dx=some (.frz od (.ext (XD dx (ks.zip vs))))->Reps X.K H' vs ps->yH X.K H' S'->yL X.K H' σ σ3->Grow X.K H H'->Inv X pins σ H' s'->yr X pins H' s'.heap a C dx->X.xe (.ref a) s'
def BO.mono{X:Cx}{H H':Hp}{E:ci}(x:BO X H E)(g:Grow X.K H H'):BO X H' E:=fun c ks ps σ3 S' H2 pins σ s' a C dx od vs h1 h2 h3 h4 h5 h6 h7 h8 h9 Fg=>x c ks ps σ3 S' H2 pins σ s' a C dx od vs h1 h2 h3 h4 h5 h6 h7 (g.trans h8) h9 Fg
def BP(K:Vo)(H:Hp)(Q3:bY)(Q:VK):Prop:=∀p S' v H',Q3 p S'->Rep K H' v p->yH K H' S'->Grow K H H'->Q v H'
def BP.mono{K:Vo}{H H':Hp}{Q3:bY}{Q:VK}(r:BP K H Q3 Q)(g:Grow K H H'):BP K H' Q3 Q:=fun p S' v H2 h1 h2 h3 h4=>r p S' v H2 h1 h2 h3 (g.trans h4)
def CW(K:Vo)(H:Hp)(N3:bV->au->Prop)(N:St->Hp->Prop):Prop:=∀σ3 S' σ H',N3 σ3 S'->yL K H' σ σ3->yH K H' S'->Grow K H H'->N σ H'
def CW.mono{K:Vo}{H H':Hp}{Q3:bV->au->Prop}{Q:St->Hp->Prop}(r:CW K H Q3 Q)(g:Grow K H H'):CW K H' Q3 Q:=fun p S' v H2 h1 h2 h3 h4=>r p S' v H2 h1 h2 h3 (g.trans h4)
inductive LE (X:Cx) (t:aT) (σ:L2.St) (H:Hp) (Q:VK):Prop
 |mk (σ3 S Q3 E3) (rσ:yL X.K H σ σ3) (rS:yH X.K H S) (h:t σ3 S Q3 E3) (xo:BO X H E3) (k:BP X.K H Q3 Q):LE X t σ H Q
inductive LT (X:Cx) (t:gV) (σ:L2.St) (H:Hp) (Q:Bool->Hp->Prop):Prop
 |mk (σ3 S Q3 E3) (rσ:yL X.K H σ σ3) (rS:yH X.K H S) (h:t σ3 S Q3 E3) (xo:BO X H E3) (k:∀b S' H',Q3 b S'->yH X.K H' S'->Grow X.K H H'->Q b H'):LT X t σ H Q
inductive LS (X:Cx) (t:bx) (D:lr) (σ:L2.St) (H:Hp):Prop
 |mk (σ3 S D3) (rσ:yL X.K H σ σ3) (rS:yH X.K H S) (h:t D3 σ3 S) (xo:BO X H D3.ex) (nx:CW X.K H D3.nx D.nx) (rt:BP X.K H D3.rt D.rt) (bk:CW X.K H D3.bk D.bk) (ct:CW X.K H D3.ct D.ct):LS X t D σ H
structure bj (X:Cx) (e:Expr) (t:aT):Prop where
 ok:PE X e (LE X t)
structure lJ (X:Cx) (e:Expr) (t:gV):Prop where
 ok:PT X e (LT X t)
structure t9 (X:Cx) (e:Expr) (t:gV):Prop where
 ok:PW X e (LT X t)
structure lK (X:Cx) (st:Stmt) (t:bx):Prop where
 ok:PS X st (LS X t)
structure ik (X:Cx) (st:List Stmt) (t:bx):Prop where
 ok:Bw X st (LS X t)
def aS{X:Cx}{e:Expr}{t t':TE}(h:PE X e t)(k:∀σ H Q,t' σ H Q->t σ H Q):PE X e t':=fun pins s σ H Q I q=>h pins s σ H Q I (k σ H Q q)
def lL{X:Cx}{e:Expr}{t t':TT}(h:PT X e t)(k:∀σ H Q,t' σ H Q->t σ H Q):PT X e t':=fun pins s σ H Q I q=>h pins s σ H Q I (k σ H Q q)
def oQ{X:Cx}{e:Expr}{t t':TT}(h:PW X e t)(k:∀σ H Q,t' σ H Q->t σ H Q):PW X e t':=fun wh pins s σ H Q I q=>h wh pins s σ H Q I (k σ H Q q)
def cp{X:Cx}{e:Stmt}{t t':TS}(h:PS X e t)(k:∀D σ H,t' D σ H->t D σ H):PS X e t':=fun pins s σ H D I q=>h pins s σ H D I (k D σ H q)
def mo{X:Cx}{e:List Stmt}{t t':TS}(h:Bw X e t)(k:∀D σ H,t' D σ H->t D σ H):Bw X e t':=fun pins s σ H D I q=>h pins s σ H D I (k D σ H q)
section
variable {X:Cx} {a b c e o:Expr} {es:List Expr} {ta tb tc te:aT} {pos:Pos}
def v3(i:Nat):aT:=fun σ S Q _=>match lk σ i with|some p=>Q p S|none=>False
def ac(i:Nat){x:Str}(hN:X.N[i]?=some x:=by rfl)(hv:wF X.env.scope x:=by first|exact Or.inl rfl|exact Or.inr (Or.inl rfl)|exact Or.inr (Or.inr rfl))(hd:(x == ("__debug__":Str))=false:=by decide)
  (hcd:(x == ("__classdict__":Str))=false:=by decide):bj X (.Name x pos) (v3 i):=
 ⟨aS (sR hN hv hd hcd) fun σ H Q ⟨σ3,S,Q3,E3,rσ,rS,h,xo,k⟩=>by
  unfold v3 at h
  split at h
  ·rename_i p e
   obtain⟨v,ev,rv⟩:=rσ.at' i p (oP e)
   exact⟨v,ev,k p S v H h rv rS .refl⟩
  ·exact h.elim⟩
def c3(p:PV):aT:=fun _ S Q _=>Q p S
def aa{i:Int}{j:Nat}:bj X (.Constant (.int i) j pos) (c3 (.int i)):=⟨aS sS fun σ H Q ⟨σ3,S,Q3,E3,rσ,rS,h,xo,k⟩=>k _ S _ H h (.int i) rS .refl⟩
def vS{i:Bool}{j:Nat}:bj X (.Constant (.bool i) j pos) (c3 (.bl i)):=⟨aS vf fun σ H Q ⟨σ3,S,Q3,E3,rσ,rS,h,xo,k⟩=>k _ S _ H h (.bl i) rS .refl⟩
def am{i:Str}{j:Nat}:bj X (.Constant (.str i) j pos) (c3 (.str i)):=⟨aS sT fun σ H Q ⟨σ3,S,Q3,E3,rσ,rS,h,xo,k⟩=>k _ S _ H h (.str i) rS .refl⟩
noncomputable def bZ:List aT->yt
 |[],_,S,Q,_=>Q [] S
 |t::ts,σ,S,Q,E=>t σ S (fun x S1=>bZ ts σ S1 (fun xs S2=>Q (x::xs) S2) E) E
noncomputable def wM:List TE->TA
 |[]=>vC
 |t::ts=>su t (wM ts)
structure jq (X:Cx) (es:List Expr) (ts:List aT):Prop where
 ok:PA X es (wM (ts.map (LE X)))
def gJ:jq X [] []:=⟨tI⟩
def oR{ts:List aT}(hs:starEach (e::es) X.env=(false,eval e X.env)::starEach es X.env)(ha:bj X e te)(hr:jq X es ts):jq X (e::es) (te::ts):=⟨qP ha.ok hr.ok hs⟩
theorem cm:∀{ts:List aT} {σ:L2.St} {H:Hp} {Q:List V->Hp->Prop} {σ3:bV} {S:au} {Q3:List PV->au->Prop} {E3:ci},yL X.K H σ σ3->yH X.K H S->bZ ts σ3 S Q3 E3->BO X H E3->
  (∀ps S' vs H',ps.length=ts.length->Q3 ps S'->Reps X.K H' vs ps->yH X.K H' S'->Grow X.K H H'->Q vs H')->wM (ts.map (LE X)) σ H Q
 |[],σ,H,Q,σ3,S,Q3,E3,rσ,rS,h,xo,k=>k [] S [] H rfl h .nil rS .refl
 |t::ts,σ,H,Q,σ3,S,Q3,E3,rσ,rS,h,xo,k=>
  ⟨σ3,S,_,E3,rσ,rS,h,xo,fun p S1 v H1 h1 rv yT g1=>cm (rσ.mono g1) yT h1 (xo.mono g1) fun ps S2 vs H2 hl h2 DX AW g2=>k (p::ps) S2 (v::vs) H2 (by rw[F7,F7,hl]) h2 (.cons (rv.mono g2) DX) AW (g1.trans g2)⟩
def aC(ts:List aT):aT:=fun σ S Q E=>bZ ts σ S (fun xs S1=>Q (.tup xs) S1) E
def ap{ts:List aT}{x1:Nat}(h:jq X es ts)(hn:ts.length<=1000:=by exact Ip rfl):bj X (.Tuple es x1 pos) (aC ts):=
 ⟨aS (tJ h.ok) fun σ H Q ⟨σ3,S,Q3,E3,rσ,rS,hq,xo,k⟩=>cm rσ rS hq xo fun ps S' vs H' hl q rv Ar g=>
  ⟨Ia (cM (by rw[rv.length,hl];exact hn)),fun p hp=>k _ S' _ _ q (.tup (SqT.of aA) (rv.mono (.new hp))) (Ar.other hp) (g.trans (.new hp))⟩⟩
def dG(ts:List aT):aT:=fun σ S Q E=>bZ ts σ S (fun xs S1=>∀p,S1 p=none->Q (.ref p) (aw S1 p (.lst xs))) E
def cy{ts:List aT}(h:jq X es ts)(hn:ts.length<=1000:=by exact Ip rfl):bj X (.List es pos) (dG ts):=
 ⟨aS (tK h.ok) fun σ H Q ⟨σ3,S,Q3,E3,rσ,rS,hq,xo,k⟩=>cm rσ rS hq xo fun ps S' vs H' hl q rv Ar g=>
  ⟨Ia (cM (by rw[rv.length,hl];exact hn)),fun p hp=>k _ _ _ _ (q p (Ar.free hp)) (.ref p) (Ar.new hp ⟨vs,aA,rv.mono (.new hp)⟩) (g.trans (.new hp))⟩⟩
abbrev R3:=PV->PV->au->bY->Prop
inductive LR (X:Cx) (r:R3) (x y:V) (H:Hp) (Q:VK):Prop
 |mk (px py S Q3) (rx:Rep X.K H x px) (ry:Rep X.K H y py) (rS:yH X.K H S) (h:r px py S Q3) (k:BP X.K H Q3 Q):LR X r x y H Q
structure gi (X:Cx) (f:Value->Value->Sem Value) (r:R3):Prop where
 ok:fX X f (LR X r)
def ai(r:R3)(ta tb:aT):aT:=fun σ S Q E=>ta σ S (fun x S1=>tb σ S1 (fun y S2=>r x y S2 Q) E) E
def gZ{r:R3}{σ:L2.St}{H:Hp}{Q:VK}:LE X (ai r ta tb) σ H Q->vp (LR X r) (LE X ta) (LE X tb) σ H Q:=fun⟨σ3,S,Q3,E3,rσ,rS,h,xo,k⟩=>
 ⟨σ3,S,_,E3,rσ,rS,h,xo,fun x S1 v H1 h1 rx yT g1=>⟨σ3,S1,_,E3,rσ.mono g1,yT,h1,xo.mono g1,fun y S2 u H2 h2 ry AW g2=>⟨x,y,S2,Q3,rx.mono g2,ry,AW,h2,k.mono (g1.trans g2)⟩⟩⟩
def ao{op:Operator}{r:R3}(ho:gi X (binaryOp op) r)(ha:bj X a ta)(hb:bj X b tb):bj X (.BinOp a op b pos) (ai r ta tb):=⟨aS (vq ho.ok ha.ok hb.ok) fun _ _ _=>gZ⟩
def oS{op:CmpOp}{r:R3}(ho:gi X (compareOp op) r)(ha:bj X a ta)(hb:bj X b tb)(hm:behindInMarks op b=false):bj X (.Compare a [op] [b] pos) (ai r ta tb):=⟨aS (qN ho.ok ha.ok hb.ok hm) fun _ _ _=>gZ⟩
def a_(t:aT):gV:=fun σ S Q E=>t σ S (fun v S'=>match v with | .bl k=>Q k S'|_=>False) E
def oU{σ:L2.St}{H:Hp}{Q:Bool->Hp->Prop}:LT X (a_ te) σ H Q->LE X te σ H (fun x H'=>∃k,x = .bl k/\Q k H'):=fun⟨σ3,S,Q3,E3,rσ,rS,h,xo,k⟩=>
 ⟨σ3,S,_,E3,rσ,rS,h,xo,fun p S' v H' h1 rv Ar g=>by
  cases p with
  |bl z=>cases rv;exact⟨z,rfl,k z S' H' h1 Ar g⟩
  |_=>exact h1.elim⟩
def bH{op:CmpOp}{r:R3}(ho:gi X (compareOp op) r)(ha:bj X a ta)(hb:bj X b tb)(hm:behindInMarks op b=false):lJ X (.Compare a [op] [b] pos) (a_ (ai r ta tb)):=
 ⟨lL (qO ho.ok ha.ok hb.ok hm) fun σ H Q ⟨σ3,S,Q3,E3,rσ,rS,h,xo,k⟩=>gZ ⟨σ3,S,_,E3,rσ,rS,h,xo,fun p S' v H' h1 rv Ar g=>by
  cases p with
  |bl z=>cases rv;exact⟨z,rfl,k z S' H' h1 Ar g⟩
  |_=>exact h1.elim⟩⟩
def vT(h:bj X e te)(he:∀whole,isTrue e X.env whole=(do let v <-whole;standAt e.pos;holding [v] (truthy v)):=by intro _;rfl):lJ X e (a_ te):=
 ⟨lL (sU h.ok he) fun σ H Q q=>oU q⟩
end
section
variable {X:Cx} {a b c:Expr} {rest:List Expr} {ta tb te:aT} {tA tB:gV} {pos:Pos}
def lM(t u:gV):gV:=fun σ S Q E=>t σ S (fun c S1=>if c=true then u σ S1 Q E else Q false S1) E
def lN(t u:gV):gV:=fun σ S Q E=>t σ S (fun c S1=>if c=true then Q true S1 else u σ S1 Q E) E
def oV(t:gV):gV:=fun σ S Q E=>t σ S (fun c S1=>Q (!c) S1) E
def lO(ha:lJ X a tA):t9 X (.BoolOp .And [a] pos) tA:=⟨qD ha.ok⟩
def il(ha:lJ X a tA):t9 X (.BoolOp .Or [a] pos) tA:=⟨sV ha.ok⟩
def oW(ha:lJ X a tA)(hb:t9 X (.BoolOp .And (b::rest) pos) tB):t9 X (.BoolOp .And (a::b::rest) pos) (lM tA tB):=
 ⟨oQ (sW ha.ok hb.ok) fun σ H Q ⟨σ3,S,Q3,E3,rσ,rS,h,xo,k⟩=>⟨σ3,S,_,E3,rσ,rS,h,xo,fun c S1 H1 h1 yT g1=>by
  cases c with
  |true=>rw[if_pos rfl]at h1 ⊢;exact⟨σ3,S1,Q3,E3,rσ.mono g1,yT,h1,xo.mono g1,fun b S2 H2 h2 AW g2=>k b S2 H2 h2 AW (g1.trans g2)⟩
  |false=>rw[if_neg (by decide)]at h1 ⊢;exact k false S1 H1 h1 yT g1⟩⟩
def kP(ha:lJ X a tA)(hb:t9 X (.BoolOp .Or (b::rest) pos) tB):t9 X (.BoolOp .Or (a::b::rest) pos) (lN tA tB):=
 ⟨oQ (vg ha.ok hb.ok) fun σ H Q ⟨σ3,S,Q3,E3,rσ,rS,h,xo,k⟩=>⟨σ3,S,_,E3,rσ,rS,h,xo,fun c S1 H1 h1 yT g1=>by
  cases c with
  |true=>rw[if_pos rfl]at h1 ⊢;exact k true S1 H1 h1 yT g1
  |false=>rw[if_neg (by decide)]at h1 ⊢;exact⟨σ3,S1,Q3,E3,rσ.mono g1,yT,h1,xo.mono g1,fun b S2 H2 h2 AW g2=>k b S2 H2 h2 AW (g1.trans g2)⟩⟩⟩
def qv(h:t9 X a tA):lJ X a tA:=⟨h.ok.pt⟩
def vU(ha:lJ X a tA):lJ X (.UnaryOp .Not a pos) (oV tA):=
 ⟨lL (sX ha.ok) fun σ H Q ⟨σ3,S,Q3,E3,rσ,rS,h,xo,k⟩=>⟨σ3,S,_,E3,rσ,rS,h,xo,fun c S1 H1 h1 yT g1=>k (!c) S1 H1 h1 yT g1⟩⟩
def oX(t:gV)(ta tb:aT):aT:=fun σ S Q E=>t σ S (fun c S1=>if c=true then ta σ S1 Q E else tb σ S1 Q E) E
def vV(hc:lJ X c tA)(ha:bj X a ta)(hb:bj X b tb):bj X (.IfExp c a b pos) (oX tA ta tb):=
 ⟨aS (nV hc.ok ha.ok hb.ok) fun σ H Q ⟨σ3,S,Q3,E3,rσ,rS,h,xo,k⟩=>⟨σ3,S,_,E3,rσ,rS,h,xo,fun c S1 H1 h1 yT g1=>by
  cases c with
  |true=>rw[if_pos rfl]at h1 ⊢;exact⟨σ3,S1,Q3,E3,rσ.mono g1,yT,h1,xo.mono g1,k.mono g1⟩
  |false=>rw[if_neg (by decide)]at h1 ⊢;exact⟨σ3,S1,Q3,E3,rσ.mono g1,yT,h1,xo.mono g1,k.mono g1⟩⟩⟩
abbrev vW:=PV->au->bY->Prop
noncomputable def yu(X:Cx)(r:vW):V->Hp->VK->Prop:=fun x H Q=>∃px S Q3,Rep X.K H x px/\yH X.K H S/\r px S Q3/\BP X.K H Q3 Q
structure yc (X:Cx) (f:Value->Sem Value) (r:vW):Prop where
 ok:wI X f (yu X r)
def nQ(r:vW)(ta:aT):aT:=fun σ S Q E=>ta σ S (fun x S1=>r x S1 Q) E
def kQ{op:UnaryOp}{r:vW}(ho:yc X (unaryOp op) r)(ha:bj X a ta):bj X (.UnaryOp op a pos) (nQ r ta):=
 ⟨aS (vt ho.ok ha.ok) fun σ H Q ⟨σ3,S,Q3,E3,rσ,rS,h,xo,k⟩=>⟨σ3,S,_,E3,rσ,rS,h,xo,fun p S1 v H1 h1 rv yT g1=>⟨p,S1,Q3,rv,yT,h1,k.mono g1⟩⟩⟩
noncomputable def gW:vW:=fun x S Q=>match x with | .int i=>Q (.int (-i)) S|_=>False
def dR:yc X (unaryOp .USub) gW:=⟨fun pins s σ H x v Q I rx ⟨px,S,Q3,r1,rS,h,k⟩=>by
 cases px with
 |int i=>cases r1;exact tH pins s σ H _ v Q I rx ⟨i,rfl,k _ S _ H h (.int _) rS .refl⟩
 |_=>exact h.elim⟩
end
section
variable {X:Cx}
def dS(g:Int->Int->PV):R3:=fun x y S Q=>match x,y with | .int i,.int j=>Q (g i j) S|_,_=>False
def e9(C:Int->Int->Prop)(g:Int->Int->PV):R3:=fun x y S Q=>match x,y with | .int i,.int j=>C i j/\Q (g i j) S|_,_=>False
def t_{f:Value->Value->Sem Value}{g:Int->Int->Int}(h:fX X f (qL fun i j=>.int (g i j))):gi X f (dS fun i j=>.int (g i j)):=⟨fun pins s σ H x y v u Q I rx ry ⟨px,py,S,Q3,r1,r2,rS,q,k⟩=>by
 cases px with
 |int i=>
  cases py with
  |int j=>cases r1;cases r2;exact h pins s σ H _ _ v u Q I rx ry ⟨i,j,rfl,rfl,k _ S _ H q (.int _) rS .refl⟩
  |_=>exact q.elim
 |_=>exact q.elim⟩
def jX{f:Value->Value->Sem Value}{g:Int->Int->Bool}(h:fX X f (qL fun i j=>.bl (g i j))):gi X f (dS fun i j=>.bl (g i j)):=⟨fun pins s σ H x y v u Q I rx ry ⟨px,py,S,Q3,r1,r2,rS,q,k⟩=>by
 cases px with
 |int i=>
  cases py with
  |int j=>cases r1;cases r2;exact h pins s σ H _ _ v u Q I rx ry ⟨i,j,rfl,rfl,k _ S _ H q (.bl _) rS .refl⟩
  |_=>exact q.elim
 |_=>exact q.elim⟩
def jY{f:Value->Value->Sem Value}{C:Int->Int->Prop}{g:Int->Int->Int}(h:fX X f (rI C fun i j=>.int (g i j))):gi X f (e9 C fun i j=>.int (g i j)):=⟨fun pins s σ H x y v u Q I rx ry ⟨px,py,S,Q3,r1,r2,rS,q,k⟩=>by
 cases px with
 |int i=>
  cases py with
  |int j=>cases r1;cases r2;exact h pins s σ H _ _ v u Q I rx ry ⟨i,j,rfl,rfl,q.1,k _ S _ H q.2 (.int _) rS .refl⟩
  |_=>exact q.elim
 |_=>exact q.elim⟩
def jr(i j:Int):Prop:=j≠0/\j.natAbs < 2 ^ 8000
def lP{n:Nat}(h:n < 2 ^ 8000):n.log2 < 9000:=by
 by_cases z:n=0
 ·rw[z];decide +kernel
 ·exact IS ((Nat.log2_lt z).mpr h) (by decide)
def ua:gi X (binaryOp .Sub) (dS fun i j=>.int (i - j)):=t_ tF
def ub:gi X (binaryOp .Mod) (e9 (fun _ j=>j≠0) fun i j=>.int (i.fmod j)):=jY qM
def rE:gi X (binaryOp .FloorDiv) (e9 jr fun i j=>.int (i.fdiv j)):=jY (wJ fun _ _ _ _ _ _ _ hc q=>PyProof.Rows.floordiv_int hc.1 q (.inl (PyProof.noPylong_of_log2 (lP hc.2))))
def uc:gi X (binaryOp .Pow) (e9 tD fun i j=>.int (i ^ j.toNat)):=jY tG
def vX:gi X (compareOp .Lt) (dS fun i j=>.bl (decide (i < j))):=jX vy
def vY:gi X (compareOp .Gt) (dS fun i j=>.bl (decide (j < i))):=jX vz
def vZ:gi X (compareOp .GtE) (dS fun i j=>.bl (decide (j<=i))):=jX vA
end
end L3
namespace L2
open PySem PySem.Spec PyProof.Rows
section
variable {X:Cx}
def v0(K:Vo):R2:=fun x y H Q=>∃a b xs ys,x = .ref a/\y = .ref b/\SqT K H a xs/\SqT K H b ys/\xs.length+ys.length<=sizeLine/\∀r H',(∀c o,H c=some o->H' c=some o)->SqT K H' r (xs++ys)->Q (.ref r) H'
def rF:fX X (binaryOp .Add) (v0 X.K):=by
 intro pins s σ H x y v u Q I rx ry h
 obtain⟨a,b,xs,ys,rfl,rfl,ha,hb,hz,q⟩:=h
 by_cases hx:xs=[]
 ·subst hx
  cases rx
  cases ry
  obtain⟨its,r1,p1,_⟩:=I.tuple ha
  obtain⟨its2,r2,p2,_⟩:=I.tuple hb
  cases r1
  obtain⟨⟨cls,dd,data,sl⟩,ho,hc,n,hd⟩:=id p1
  obtain⟨⟨DL,dd2,data2,sl2⟩,ho2,hc2,n2,hd2⟩:=id p2
  simp only at hc hd hc2 hd2
  subst hc hd hc2 hd2
  exact concat_meets ⟨_,ho,rfl⟩ ⟨_,ho2,rfl⟩ noFill_tuple_add seq_tuple_add Ie HX (HM _ _)
   (tuple_addW0 a b _ its2.toArray n n2 dd dd2 sl sl2 rfl) ⟨ho,ho2,⟨.ref b,H,I,rfl,q b H (fun _ _ e=>e) hb⟩⟩
 ·exact qX pins s σ H _ _ v u Q I rx ry ⟨a,b,xs,ys,rfl,rfl,ha,hb,hx,hz,fun e=>q a H (fun _ _ e=>e) (by rw[e,Hy];exact ha),
   fun _ p hp=>q p _ (fun c o e=>by rw[ax (aN e hp)];exact e) (SqT.of aA)⟩
end
end L2
namespace L3
open PySem L2
section
variable {X:Cx}
def aR:R3:=fun x y S Q=>match x,y with
 | .int i,.int j=>Q (.int (i+j)) S
 | .str i,.str j=>i.length+j.length<=sizeLine/\Q (.str (i++j)) S
 | .tup i,.tup j=>i.length+j.length<=sizeLine/\Q (.tup (i++j)) S
 | .ref i,.ref j=>match S i,S j with
  |some (.lst xs),some (.lst ys)=>xs.length+ys.length<=sizeLine/\∀p,S p=none->Q (.ref p) (aw S p (.lst (xs++ys)))
  |_,_=>False
 |_,_=>False
def aB:gi X (binaryOp .Add) aR:=⟨fun pins s σ H x y v u Q I rx ry ⟨px,py,S,Q3,r1,r2,rS,q,k⟩=>by
 unfold aR at q
 split at q
 ·cases r1;cases r2
  exact tE pins s σ H _ _ v u Q I rx ry ⟨_,_,rfl,rfl,k _ S _ H q (.int _) rS .refl⟩
 ·cases r1;cases r2
  exact lw pins s σ H _ _ v u Q I rx ry ⟨_,_,rfl,rfl,q.1,k _ S _ H q.2 (.str _) rS .refl⟩
 ·cases r1 with
  |tup h1 s1=>
   cases r2 with
   |tup h2 s2=>
    refine rF pins s σ H _ _ v u Q I rx ry ⟨_,_,_,_,rfl,rfl,h1,h2,by rw[s1.length,s2.length];exact q.1,fun r H' hs hr=>?_⟩
    exact k _ S _ H' q.2 (.tup hr ((s1.mono (.same hs)).append (s2.mono (.same hs)))) (rS.grow hs) (.same hs)
 ·cases r1;cases r2
  split at q
  ·rename_i i j xs ys e1 e2
   obtain⟨vs,h1,s1⟩:=rS _ _ e1
   obtain⟨us,h2,s2⟩:=rS _ _ e2
   exact tT pins s σ H _ _ v u Q I rx ry ⟨_,_,_,_,rfl,rfl,h1,h2,by rw[s1.length,s2.length];exact q.1,fun p hp=>k _ _ _ _ (q.2 p (rS.free hp)) (.ref p) (rS.new hp ⟨_,aA,(s1.append s2).mono (.new hp)⟩) (.new hp)⟩
  ·exact q.elim
 ·exact q.elim⟩
end
mutual
inductive Dat (S:au):PV->PyData->Prop
 |non:Dat S .non .none
 |bl (b:Bool):Dat S (.bl b) (.bool b)
 |int (i:Int):Dat S (.int i) (.int i)
 |str (x:Str):Dat S (.str x) (.str x)
 |tup {ps:List PV} {ds:List PyData}:Ag S ps ds->Dat S (.tup ps) (.tuple ds)
 |cl {ps:List PV} {ds:List PyData}:Ag S ps ds->Dat S (.cl ps) (.list ds)
 |ref {a:Addr} {ps:List PV} {ds:List PyData}:S a=some (.lst ps)->Ag S ps ds->Dat S (.ref a) (.list ds)
inductive Ag (S:au):List PV->List PyData->Prop
 |nil:Ag S [] []
 |cons {p:PV} {d:PyData} {ps:List PV} {ds:List PyData}:Dat S p d->Ag S ps ds->Ag S (p::ps) (d::ds)
end
section
variable {X:Cx} {pins:Va} {σ:L2.St} {H:Hp} {s:Shared} {S:au}
def lQ(I:Inv X pins σ H s)(rS:yH X.K H S):(∀{p:PV} {d:PyData},Dat S p d->∀{v:V} {u:Value},Rep X.K H v p->RelV v u->∃as,Reads s.heap u d as)/\∀{ps:List PV} {ds:List PyData},Ag S ps ds->∀{vs:List V} {us:Vv},Reps X.K H vs ps->Vals vs us->∃as,ReadsAll s.heap us ds as:=by
 have one:=@Dat.rec S (motive_1:=fun p d _=>∀{v:V} {u:Value},Rep X.K H v p->RelV v u->∃as,Reads s.heap u d as) (motive_2:=fun ps ds _=>∀{vs:List V} {us:Vv},Reps X.K H vs ps->Vals vs us->∃as,ReadsAll s.heap us ds as)
 have two:=@Ag.rec S (motive_1:=fun p d _=>∀{v:V} {u:Value},Rep X.K H v p->RelV v u->∃as,Reads s.heap u d as) (motive_2:=fun ps ds _=>∀{vs:List V} {us:Vv},Reps X.K H vs ps->Vals vs us->∃as,ReadsAll s.heap us ds as)
 have c1:∀{v:V} {u:Value},Rep X.K H v .non->RelV v u->∃as,Reads s.heap u .none as:=fun h r=>by cases h;cases r;exact⟨_,.none⟩
 have c2:∀(b:Bool) {v:V} {u:Value},Rep X.K H v (.bl b)->RelV v u->∃as,Reads s.heap u (.bool b) as:=fun b _ _ h r=>by cases h;cases r;exact⟨_,.bool b⟩
 have c3:∀(i:Int) {v:V} {u:Value},Rep X.K H v (.int i)->RelV v u->∃as,Reads s.heap u (.int i) as:=fun i _ _ h r=>by cases h;obtain⟨t,rfl⟩:=r;exact⟨_,.int i t⟩
 have c4:∀(x:Str) {v:V} {u:Value},Rep X.K H v (.str x)->RelV v u->∃as,Reads s.heap u (.str x) as:=fun x _ _ h r=>by cases h;obtain⟨t,rfl⟩:=r;exact⟨_,.str x t⟩
 have c5:∀{ps:List PV} {ds:List PyData},Ag S ps ds->(∀{vs:List V} {us:Vv},Reps X.K H vs ps->Vals vs us->∃as,ReadsAll s.heap us ds as)->∀{v:V} {u:Value},Rep X.K H v (.tup ps)->RelV v u->∃as,Reads s.heap u (.tuple ds) as:=fun _ ih _ _ h r=>by
  cases h with
  |tup h rs=>
   cases r
   obtain⟨its,rv,⟨o,ho,hc,n,hd⟩,hz⟩:=I.tuple h
   obtain⟨as,q⟩:=ih rs rv
   exact⟨as,.tuple ho hc hd (by simpa using q)⟩
 have c6:∀{ps:List PV} {ds:List PyData},Ag S ps ds->(∀{vs:List V} {us:Vv},Reps X.K H vs ps->Vals vs us->∃as,ReadsAll s.heap us ds as)->∀{v:V} {u:Value},Rep X.K H v (.cl ps)->RelV v u->∃as,Reads s.heap u (.list ds) as:=fun _ ih _ _ h r=>by
  cases h with
  |cl h rs=>
   cases r
   obtain⟨its,rv,⟨o,n,ho,hc,_,hd⟩,hz⟩:=I.list h.sq
   obtain⟨as,q⟩:=ih rs rv
   exact⟨_,.list ho hc hd (by simpa using q)⟩
 have c7:∀{a:Addr} {ps:List PV} {ds:List PyData},S a=some (.lst ps)->Ag S ps ds->(∀{vs:List V} {us:Vv},Reps X.K H vs ps->Vals vs us->∃as,ReadsAll s.heap us ds as)->∀{v:V} {u:Value},Rep X.K H v (.ref a)->RelV v u->∃as,Reads s.heap u (.list ds) as:=fun e _ ih _ _ h r=>by
  cases h
  cases r
  obtain⟨vs,hv,rs⟩:=rS _ _ e
  obtain⟨its,rv,⟨o,n,ho,hc,_,hd⟩,hz⟩:=I.list (SqL.of hv)
  obtain⟨as,q⟩:=ih rs rv
  exact⟨_,.list ho hc hd (by simpa using q)⟩
 have c8:∀{vs:List V} {us:Vv},Reps X.K H vs []->Vals vs us->∃as,ReadsAll s.heap us [] as:=fun h r=>by cases h;cases r;exact⟨_,.nil⟩
 have c9:∀{p:PV} {d:PyData} {ps:List PV} {ds:List PyData},Dat S p d->Ag S ps ds->(∀{v:V} {u:Value},Rep X.K H v p->RelV v u->∃as,Reads s.heap u d as)->(∀{vs:List V} {us:Vv},Reps X.K H vs ps->Vals vs us->∃as,ReadsAll s.heap us ds as)->∀{vs:List V} {us:Vv},Reps X.K H vs (p::ps)->Vals vs us->∃as,ReadsAll s.heap us (d::ds) as:=fun _ _ i1 i2 _ _ h r=>by
  cases h with
  |cons a rs=>
   cases r with
   |cons r1 r2=>
    obtain⟨as,q⟩:=i1 a r1
    obtain⟨bs,q2⟩:=i2 rs r2
    exact⟨_,.cons q q2⟩
 exact⟨fun h=>one c1 c2 c3 c4 c5 c6 c7 c8 c9 h,fun h=>two c1 c2 c3 c4 c5 c6 c7 c8 c9 h⟩
def Dat.reads(I:Inv X pins σ H s)(rS:yH X.K H S){p:PV}{d:PyData}{v:V}{u:Value}(h:Dat S p d)(r:Rep X.K H v p)(r2:RelV v u):∃as,Reads s.heap u d as:=(lQ I rS).1 h r r2
end
section
variable {X:Cx}
def bJ(neg:Bool):R3:=fun x y S Q=>match x,y with
 | .int i,.int j=>Q (.bl (neg != decide (i=j))) S
 | .str i,.str j=>Q (.bl (neg != decide (i=j))) S
 | .bl i,.bl j=>Q (.bl (neg != decide (i=j))) S
 |x,y=>∃d d',Dat S x d/\Dat S y d'/\d.canLay0=true/\d'.canLay0=true/\min d.depth d'.depth<=150/\Q (.bl (neg != PyData.eqv d d')) S
def mq(hu:X.A.units+150 < cLine):gi X (compareOp .Eq) (bJ false):=⟨fun pins s σ H x y v u Q I rx ry ⟨px,py,S,Q3,r1,r2,rS,q,k⟩=>by
 unfold bJ at q
 split at q
 ·cases r1;cases r2
  exact n_ pins s σ H _ _ v u Q I rx ry ⟨rfl,k _ S _ H (by simpa using q) (.bl _) rS .refl⟩
 ·cases r1;cases r2
  exact n_ pins s σ H _ _ v u Q I rx ry ⟨rfl,k _ S _ H (by simpa using q) (.bl _) rS .refl⟩
 ·cases r1;cases r2
  exact n_ pins s σ H _ _ v u Q I rx ry ⟨rfl,k _ S _ H (by simpa using q) (.bl _) rS .refl⟩
 ·obtain⟨d,d',h1,h2,c1,c2,hd,q⟩:=q
  obtain⟨as,a1⟩:=h1.reads I rS r1 rx
  obtain⟨bs,a2⟩:=h2.reads I rS r2 ry
  exact SeqAt.compareEq_reads a1 a2 c1 c2 (by omega) ⟨.bl _,H,I,rfl,k _ S _ H (by simpa using q) (.bl _) rS .refl⟩⟩
def v5(hu:X.A.units+150 < cLine):gi X (compareOp .NotEq) (bJ true):=⟨fun pins s σ H x y v u Q I rx ry ⟨px,py,S,Q3,r1,r2,rS,q,k⟩=>by
 unfold bJ at q
 split at q
 ·cases r1;cases r2
  exact oa pins s σ H _ _ v u Q I rx ry ⟨rfl,k _ S _ H (by simpa using q) (.bl _) rS .refl⟩
 ·cases r1;cases r2
  exact oa pins s σ H _ _ v u Q I rx ry ⟨rfl,k _ S _ H (by simpa using q) (.bl _) rS .refl⟩
 ·cases r1;cases r2
  exact oa pins s σ H _ _ v u Q I rx ry ⟨rfl,k _ S _ H (by simpa using q) (.bl _) rS .refl⟩
 ·obtain⟨d,d',h1,h2,c1,c2,hd,q⟩:=q
  obtain⟨as,a1⟩:=h1.reads I rS r1 rx
  obtain⟨bs,a2⟩:=h2.reads I rS r2 ry
  exact SeqAt.compareNe_reads a1 a2 c1 c2 (by omega) ⟨.bl _,H,I,rfl,k _ S _ H (by simpa using q) (.bl _) rS .refl⟩⟩
noncomputable def lR(S:au):PV->Option (List PV)
 | .tup xs=>some xs
 | .cl xs=>some xs
 | .ref a=>match S a with|some (.lst xs)=>some xs|_=>none
 |_=>none
def ud{H:Hp}{S:au}{v:V}{p:PV}{xs:List PV}(rS:yH X.K H S)(r:Rep X.K H v p)(h:lR S p=some xs):∃a vs,v = .ref a/\(SqL X.K H a vs\/SqT X.K H a vs)/\Reps X.K H vs xs:=by
 unfold lR at h
 split at h
 ·cases h;cases r with|tup h1 rs=>exact⟨_,_,rfl,.inr h1,rs⟩
 ·cases h;cases r with|cl h1 rs=>exact⟨_,_,rfl,.inl h1.sq,rs⟩
 ·cases r
  split at h
  ·rename_i e
   cases h
   obtain⟨vs,hv,rs⟩:=rS _ _ e
   exact⟨_,vs,rfl,.inl (SqL.of hv),rs⟩
  ·cases h
 ·cases h
noncomputable def gK(x:PyData)(xs:List PyData):Bool:=xs.any fun y=>PyData.eqv y x
def mr(neg:Bool):R3:=fun x y S Q=>match x,y with
 | .str i,.str j=>Q (.bl (neg != !(Builtin.Str.occurrences j i 0 j.length 1).isEmpty)) S
 |x,y=>match y with
  | .ref a=>match S a with
   |some (.lst xs)=>∃d ds,Dat S x d/\Ag S xs ds/\d.canLay0=true/\PyData.canLayAll0 ds=true/\d.depth<=150/\Q (.bl (neg != gK d ds)) S
   |some (.dct kvs)=>match x with
    | .str z=>Q (.bl (neg != (kvs.any fun kv=>decide (kv.1=Sum.inr z)))) S
    | .int z=>Q (.bl (neg != (kvs.any fun kv=>decide (kv.1=Sum.inl z)))) S
    |_=>False
   |_=>False
  | .tup xs=>∃d ds,Dat S x d/\Ag S xs ds/\d.canLay0=true/\PyData.canLayAll0 ds=true/\d.depth<=150/\Q (.bl (neg != gK d ds)) S
  |_=>False
theorem yU.any{K:Vo}{H:Hp}{κ:Type} [DecidableEq κ](k:κ):∀{vs:List (κ×V)} {ps:List (κ×PV)},yU K H vs ps->(f_ vs k).isSome=ps.any fun kv=>decide (kv.1=k)
 |_,_,.nil=>rfl
 |_,_,.cons (k:=k') a r=>by
  rw[IZ,<-yU.any k r]
  by_cases e:k'=k
  ·rw[zT e];simp[e]
  ·rw[zU e];simp[e]
def oY(hu:X.A.units+160 < cLine):gi X (compareOp .In) (mr false):=⟨fun pins s σ H x y v u Q I rx ry ⟨px,py,S,Q3,r1,r2,rS,q,k⟩=>by
 unfold mr at q
 split at q
 ·cases r1;cases r2
  exact mU pins s σ H _ _ v u Q I rx ry ⟨_,_,rfl,rfl,k _ S _ H (by simpa using q) (.bl _) rS .refl⟩
 ·split at q
  ·cases r2
   cases ry
   split at q
   ·rename_i xs e
    obtain⟨d,ds,h1,h2,c1,c2,hd,q⟩:=q
    obtain⟨as,a1⟩:=h1.reads I rS r1 rx
    obtain⟨bs,a2⟩:=(Dat.ref e h2).reads I rS (.ref _) (rfl:RelV (.ref _) (.ref _))
    exact SeqAt.in_list_reads a2 a1 c2 c1 (by omega) ⟨.bl _,H,I,rfl,k _ S _ H (by simpa [gK]using q) (.bl _) rS .refl⟩
   ·rename_i kvs e
    obtain⟨kv,hv,rk⟩:=rS _ _ e
    split at q
    ·cases r1
     exact vM (by omega) I (DGet.k (k:=Sum.inr _) hv) rx fun s3 I3=>⟨.bl _,H,I3,rfl,k _ S _ H (by rw[rk.any];simpa using q) (.bl _) rS .refl⟩
    ·cases r1
     exact vM (by omega) I (DGet.k (k:=Sum.inl _) hv) rx fun s3 I3=>⟨.bl _,H,I3,rfl,k _ S _ H (by rw[rk.any];simpa using q) (.bl _) rS .refl⟩
    ·exact q.elim
   ·exact q.elim
  ·rename_i xs
   obtain⟨d,ds,h1,h2,c1,c2,hd,q⟩:=q
   obtain⟨as,a1⟩:=h1.reads I rS r1 rx
   obtain⟨bs,a2⟩:=(Dat.tup h2).reads I rS r2 ry
   exact SeqAt.in_tuple_reads a2 a1 c2 c1 (by omega) ⟨.bl _,H,I,rfl,k _ S _ H (by simpa [gK]using q) (.bl _) rS .refl⟩
  ·exact q.elim⟩
def oZ(hu:X.A.units+160 < cLine):gi X (compareOp .NotIn) (mr true):=⟨fun pins s σ H x y v u Q I rx ry ⟨px,py,S,Q3,r1,r2,rS,q,k⟩=>by
 unfold mr at q
 split at q
 ·cases r1;cases r2
  exact jM pins s σ H _ _ v u Q I rx ry ⟨_,_,rfl,rfl,k _ S _ H (by simpa using q) (.bl _) rS .refl⟩
 ·split at q
  ·cases r2
   cases ry
   split at q
   ·rename_i xs e
    obtain⟨d,ds,h1,h2,c1,c2,hd,q⟩:=q
    obtain⟨as,a1⟩:=h1.reads I rS r1 rx
    obtain⟨bs,a2⟩:=(Dat.ref e h2).reads I rS (.ref _) (rfl:RelV (.ref _) (.ref _))
    exact SeqAt.notIn_list_reads a2 a1 c2 c1 (by omega) ⟨.bl _,H,I,rfl,k _ S _ H (by simpa [gK]using q) (.bl _) rS .refl⟩
   ·rename_i kvs e
    obtain⟨kv,hv,rk⟩:=rS _ _ e
    split at q
    ·cases r1
     exact ml (by omega) I (DGet.k (k:=Sum.inr _) hv) rx fun s3 I3=>⟨.bl _,H,I3,rfl,k _ S _ H (by rw[rk.any];simpa using q) (.bl _) rS .refl⟩
    ·cases r1
     exact ml (by omega) I (DGet.k (k:=Sum.inl _) hv) rx fun s3 I3=>⟨.bl _,H,I3,rfl,k _ S _ H (by rw[rk.any];simpa using q) (.bl _) rS .refl⟩
    ·exact q.elim
   ·exact q.elim
  ·rename_i xs
   obtain⟨d,ds,h1,h2,c1,c2,hd,q⟩:=q
   obtain⟨as,a1⟩:=h1.reads I rS r1 rx
   obtain⟨bs,a2⟩:=(Dat.tup h2).reads I rS r2 ry
   exact SeqAt.notIn_tuple_reads a2 a1 c2 c1 (by omega) ⟨.bl _,H,I,rfl,k _ S _ H (by simpa [gK]using q) (.bl _) rS .refl⟩
  ·exact q.elim⟩
end
end L3
namespace HT
open PySem PySem.Spec PyProof.Rows
section
variable {prog:Program} {w:World} {A:Around} {E:Vq} {s:Shared}
def fF{t sl:Addr}{items:Vw}{vl vu:Value}{lo hi:Option Int}{Q:Vq}(ht:IsTup s.heap t items)(hs:s.heap.IsSliceOf sl vl vu .none)(pl:IsPart vl lo)(pu:IsPart vu hi)
  (hw:yS items.size 0 lo=0/\yS items.size items.size hi=items.size)
  (h:Q (.ref t) s):wpAny (model prog w) A (getItem (.ref t) (.ref sl)) Q E s:=by
 obtain⟨os,hos,hcs,hds⟩:=id hs
 have DM:s.TypeIs (.ref sl) "slice":=⟨os,hos,hcs⟩
 unfold getItem
 try with_reducible refine HL ?_
 first|refine FO (FW ?_)|skip
 refine FO (wpAny_sequenceKey ht.typeIs (by decide) ?_)
 refine FO (Gs (name:=Str.ofString "__getitem__") ht.typeIs Gn
  (GV Gn ht.typeIs entry_tuple_getitem ?_ (args_tuple_getitem _ _)))
 show wpAny _ _ (Builtin.Tuple.tupleItemsOf (.ref t) >>= _) _ _ s
 refine FO (tupleItemsOf_ ht ?_)
 refine FO (wpAny_typeOf DM ?_)
 rw[if_pos (by decide)]
 refine FO (cL hs pl pu ?_)
 have hyes:(((yS items.size 0 lo:Nat):Int) == 0&&(1:Int) == 1&&(yS items.size items.size hi - yS items.size 0 lo) == items.size)=true:=by
  rw[hw.1,hw.2];simp
 show wpAny _ _ (if (((yS items.size 0 lo:Nat):Int) == 0&&(1:Int) == 1&&(yS items.size items.size hi - yS items.size 0 lo) == items.size)=true then _ else _) _ _ s
 rw[if_pos hyes]
 unfold Builtin.Tuple.tupleIsExact
 refine FO (FO (wpAny_typeOf ht.typeIs (FW ?_)))
 rw[if_pos (by decide)]
 first
  |exact FO (HD (FW ⟨_,rfl,FW h⟩))
  |exact FO (HD (FO (FW (FW ⟨_,rfl,FW h⟩))))
  |exact FO (HD (FO (FW ⟨_,rfl,FW h⟩)))
end
end HT
namespace L2
open PySem PySem.Spec PyProof.Rows
section
variable {X:Cx}
noncomputable def v6(K:Vo):V->Option Int->Option Int->Hp->VK->Prop:=fun x lo hi H Q=>∃a xs,x = .ref a/\SqT K H a xs/\∀r H',(∀c o,H c=some o->H' c=some o)->SqT K H' r (hV xs lo hi)->Q (.ref r) H'
def rG:uY X (v6 X.K):=by
 intro pins s σ H x v vl vu lo hi sl Q I rx hs pl pu h
 obtain⟨a,xs,rfl,hx,q⟩:=h
 by_cases hw:HT.yS xs.length 0 lo=0/\HT.yS xs.length xs.length hi=xs.length
 ·cases rx
  obtain⟨its,r,ht,hz⟩:=I.tuple hx
  have hlen:its.toArray.size=xs.length:=by rw[FY];exact r.length.symm
  refine⟨"tuple",_,Gn.lookup,ht.typeIs,HT.fF ht hs pl pu (by rw[hlen];exact hw) ⟨.ref a,H,I,rfl,q a H (fun _ _ e=>e) ?_⟩⟩
  have e:hV xs lo hi=xs:=by unfold hV;rw[hw.1,hw.2];simp
  rw[e];exact hx
 ·exact tN pins s σ H _ v vl vu lo hi sl Q I rx hs pl pu ⟨a,xs,rfl,hx,hw,fun p hp=>q p _ (fun c o e=>by rw[ax (aN e hp)];exact e) (SqT.of aA)⟩
def rH(hu:X.A.units+1 < cLine):uZ X (fun x y H Q=>∃a v,x = .ref a/\DGet H a y (some v)/\Q v H):=by
 intro value slice pins s σ H x y v u Q I rx ry h hs
 obtain⟨a,z,rfl,g,q⟩:=h
 cases rx
 exact tail_any (kK I g) PySem.F.slot_dict_getitem.lookup (mZ hu I g ry fun w' s3 I3 rw'=>⟨z,H,I3,rw',q⟩) hs
def o0(hu:X.A.units+1 < cLine):qH X (fun o i v H Q=>∃a H',o = .ref a/\BV H a i v H'/\Q H'):=by
 intro pins s σ H o i v ov iv u Q I ro ri rv h
 obtain⟨a,H',rfl,g,q⟩:=h
 cases ro
 exact m4 hu I g ri rv fun s' I'=>⟨H',I',q⟩
end
end L2
namespace L3
open PySem L2
theorem Reps.zp{K:Vo}{H:Hp}{vs:List V}{ps:List PV}{i:Int}{p:PV}(r:Reps K H vs ps)(h:L2.zp ps i=some p):∃v,L2.zp vs i=some v/\Rep K H v p:=by
 unfold L2.zp at h ⊢
 rw[r.length]
 cases e:mf ps.length i with
 |none=>rw[e]at h;cases h
 |some j=>
  rw[e]at h
  obtain⟨v,h1,h2⟩:=r.get h
  exact⟨v,h1,h2⟩
noncomputable def lS:PV->Option bt
 | .int i=>some (.inl i)
 | .str x=>some (.inr x)
 |_=>none
def cW{K:Vo}{H:Hp}{v:V}{p:PV}{k:bt}(r:Rep K H v p)(h:lS p=some k):v=kV k:=by
 cases p with
 |int i=>cases h;cases r;rfl
 |str i=>cases h;cases r;rfl
 |_=>cases h
noncomputable def iZ{κ:Type} [DecidableEq κ]:List (κ×PV)->κ->Option PV
 |[],_=>none
 |(k',v)::r,k=>if k'=k then some v else iZ r k
theorem yU.val{K:Vo}{H:Hp}{κ:Type} [DecidableEq κ]{k:κ}{p:PV}:∀{vs:List (κ×V)} {ps:List (κ×PV)},yU K H vs ps->iZ ps k=some p->∃v,f_ vs k=some v/\Rep K H v p
 |_,_,.nil,h=>by cases h
 |_,_,.cons (k:=k') a r,h=>by
  unfold iZ at h
  split at h
  ·rename_i e;cases h;exact⟨_,zT e,a⟩
  ·rename_i e;rw[zU e];exact yU.val r h
section
variable {X:Cx} {a b e lo hi:Expr} {ta tb te:aT} {pos p2:Pos}
structure yd (X:Cx) (r:R3):Prop where
 ok:uZ X (LR X r)
def v7{r:R3}(hr:yd X r)(ha:bj X a ta)(hb:bj X b tb)(hs:gX b):bj X (.Subscript a b pos) (ai r ta tb):=⟨aS (vI hr.ok ha.ok hb.ok hs) fun _ _ _=>gZ⟩
def aj:R3:=fun x y S Q=>match x with
 | .tup xs=>match y with | .int i=>(match zp xs i with|some v=>Q v S|none=>False)|_=>False
 | .cl xs=>match y with | .int i=>(match zp xs i with|some v=>Q v S|none=>False)|_=>False
 | .str z=>match y with | .int i=>z.length<=sizeLine/\(match zp z.cps.toList i with|some c=>Q (.str ⟨#[c]⟩) S|none=>False)|_=>False
 | .ref a=>match S a with
  |some (.lst xs)=>(match y with | .int i=>(match zp xs i with|some v=>Q v S|none=>False)|_=>False)
  |some (.dct kvs)=>(match lS y with|some k=>(match iZ kvs k with|some v=>Q v S|none=>False)|none=>False)
  |_=>False
 |_=>False
def ye(hu:X.A.units+1 < cLine):yd X aj:=⟨fun value slice pins s σ H x y v u Q I rx ry ⟨px,py,S,Q3,r1,r2,rS,q,k⟩ hs=>by
 unfold aj at q
 split at q
 ·split at q
  ·split at q
   ·rename_i e
    cases r2
    cases r1 with
    |tup h1 rs=>
     obtain⟨w,hw,rw'⟩:=rs.zp e
     exact tO value slice pins s σ H _ _ v u Q I rx ry ⟨_,_,_,w,rfl,rfl,h1,hw,k _ S _ H q rw' rS .refl⟩ hs
   ·exact q.elim
  ·exact q.elim
 ·split at q
  ·split at q
   ·rename_i e
    cases r2
    cases r1 with
    |cl h1 rs=>
     obtain⟨w,hw,rw'⟩:=rs.zp e
     exact mi value slice pins s σ H _ _ v u Q I rx ry ⟨_,_,_,w,rfl,rfl,h1.sq,hw,k _ S _ H q rw' rS .refl⟩ hs
   ·exact q.elim
  ·exact q.elim
 ·split at q
  ·obtain⟨hz,q⟩:=q
   split at q
   ·rename_i e
    cases r1;cases r2
    exact tP value slice pins s σ H _ _ v u Q I rx ry ⟨_,_,_,rfl,rfl,hz,e,k _ S _ H q (.str _) rS .refl⟩ hs
   ·exact q.elim
  ·exact q.elim
 ·split at q
  ·rename_i e0
   split at q
   ·split at q
    ·rename_i e
     cases r1;cases r2
     obtain⟨vs,hv,rs⟩:=rS _ _ e0
     obtain⟨w,hw,rw'⟩:=rs.zp e
     exact mi value slice pins s σ H _ _ v u Q I rx ry ⟨_,_,_,w,rfl,rfl,SqL.of hv,hw,k _ S _ H q rw' rS .refl⟩ hs
    ·exact q.elim
   ·exact q.elim
  ·rename_i e0
   split at q
   ·rename_i ek
    split at q
    ·rename_i ev
     cases r1
     have e1:=cW r2 ek
     subst e1
     obtain⟨kv,hv,rk⟩:=rS _ _ e0
     obtain⟨w,hw,rw'⟩:=rk.val ev
     refine rH hu value slice pins s σ H _ _ v u Q I rx ry ⟨_,w,rfl,?_,k _ S _ H q rw' rS .refl⟩ hs
     rw[<-hw]
     exact DGet.k hv
    ·exact q.elim
   ·exact q.elim
  ·exact q.elim
 ·exact q.elim⟩
abbrev u5:=bV->au->(Option Int->au->Prop)->ci->Prop
inductive LO (X:Cx) (t:u5) (σ:L2.St) (H:Hp) (Q:Option Int->Hp->Prop):Prop
 |mk (σ3 S Q3 E3) (rσ:yL X.K H σ σ3) (rS:yH X.K H S) (h:t σ3 S Q3 E3) (xo:BO X H E3) (k:∀o S' H',Q3 o S'->yH X.K H' S'->Grow X.K H H'->Q o H'):LO X t σ H Q
structure wN (X:Cx) (e:Option Expr) (t:u5):Prop where
 ok:PO X e (LO X t)
noncomputable def o8:u5:=fun _ S Q _=>Q none S
noncomputable def ng(t:aT):u5:=fun σ S Q E=>t σ S (fun v S'=>match v with | .int i=>Q (some i) S'|_=>False) E
def o9{e:Option Expr}{t t':TO}(h:PO X e t)(k:∀σ H Q,t' σ H Q->t σ H Q):PO X e t':=fun pins s σ H Q I q=>h pins s σ H Q I (k σ H Q q)
def gj:wN X none o8:=⟨o9 qV fun σ H Q ⟨σ3,S,Q3,E3,rσ,rS,h,xo,k⟩=>k none S H h rS .refl⟩
def dU(h:bj X e te):wN X (some e) (ng te):=⟨o9 (qW h.ok) fun σ H Q ⟨σ3,S,Q3,E3,rσ,rS,h,xo,k⟩=>⟨σ3,S,_,E3,rσ,rS,h,xo,fun p S' v H' h1 rv Ar g=>by
 cases p with
 |int i=>cases rv;exact⟨i,rfl,k _ S' H' h1 Ar g⟩
 |_=>exact h1.elim⟩⟩
noncomputable def zm{α:Type}(xs:List α)(lo hi:Option Int):List α:=(xs.drop (HT.yS xs.length 0 lo)).take (HT.yS xs.length xs.length hi - HT.yS xs.length 0 lo)
def Reps.cut{K:Vo}{H:Hp}{vs:List V}{ps:List PV}(r:Reps K H vs ps)(lo hi:Option Int):Reps K H (hV vs lo hi) (zm ps lo hi):=by
 unfold hV zm
 rw[r.length]
 exact(r.drop _).take _
def nh(x:PV)(lo hi:Option Int)(S:au)(Q:bY):Prop:=match x with
 | .tup xs=>Q (.tup (zm xs lo hi)) S
 | .cl xs=>∀p,S p=none->Q (.ref p) (aw S p (.lst (zm xs lo hi)))
 | .str z=>z.length<=sizeLine/\Q (.str (Txt.slice z lo hi)) S
 | .ref a=>match S a with|some (.lst xs)=>∀p,S p=none->Q (.ref p) (aw S p (.lst (zm xs lo hi)))|_=>False
 |_=>False
noncomputable def yv(X:Cx):V->Option Int->Option Int->Hp->VK->Prop:=fun x lo hi H Q=>∃px S Q3,Rep X.K H x px/\yH X.K H S/\nh px lo hi S Q3/\BP X.K H Q3 Q
def yw:uY X (yv X):=by
 intro pins s σ H x v vl vu lo hi sl Q I rx hs pl pu ⟨px,S,Q3,r1,rS,q,k⟩
 unfold nh at q
 split at q
 ·cases r1 with
  |tup h1 rs=>exact rG pins s σ H _ v vl vu lo hi sl Q I rx hs pl pu ⟨_,_,rfl,h1,fun r H' hh hr=>k _ S _ H' q (.tup hr ((rs.cut lo hi).mono (.same hh))) (rS.grow hh) (.same hh)⟩
 ·cases r1 with
  |cl h1 rs=>exact mj pins s σ H _ v vl vu lo hi sl Q I rx hs pl pu ⟨_,_,rfl,h1.sq,fun p hp=>k _ _ _ _ (q p (rS.free hp)) (.ref p) (rS.new hp ⟨_,aA,(rs.cut lo hi).mono (.new hp)⟩) (.new hp)⟩
 ·cases r1
  exact tY pins s σ H _ v vl vu lo hi sl Q I rx hs pl pu ⟨_,rfl,q.1,k _ S _ H q.2 (.str _) rS .refl⟩
 ·split at q
  ·rename_i e
   cases r1
   obtain⟨vs,hv,rs⟩:=rS _ _ e
   exact mj pins s σ H _ v vl vu lo hi sl Q I rx hs pl pu ⟨_,_,rfl,SqL.of hv,fun p hp=>k _ _ _ _ (q p (rS.free hp)) (.ref p) (rS.new hp ⟨_,aA,(rs.cut lo hi).mono (.new hp)⟩) (.new hp)⟩
  ·exact q.elim
 ·exact q.elim
def b4(te:aT)(tl th:u5):aT:=fun σ S Q E=>te σ S (fun x S1=>tl σ S1 (fun l S2=>th σ S2 (fun u S3=>nh x l u S3 Q) E) E) E
def cX{lo hi:Option Expr}{tl th:u5}(he:bj X e te)(hl:wN X lo tl)(hu:wN X hi th):bj X (.Subscript e (.Slice lo hi none p2) pos) (b4 te tl th):=
 ⟨aS (om yw he.ok hl.ok hu.ok) fun σ H Q ⟨σ3,S,Q3,E3,rσ,rS,h,xo,k⟩=>⟨σ3,S,_,E3,rσ,rS,h,xo,fun x S1 v H1 h1 rx yT g1=>⟨σ3,S1,_,E3,rσ.mono g1,yT,h1,xo.mono g1,fun l S2 H2 h2 AW g2=>
  ⟨σ3,S2,_,E3,rσ.mono (g1.trans g2),AW,h2,xo.mono (g1.trans g2),fun u S3 H3 h3 CH g3=>⟨x,S3,Q3,rx.mono (g2.trans g3),CH,h3,k.mono (g1.trans (g2.trans g3))⟩⟩⟩⟩⟩
def rJ:fX X (binaryOp .Mult) (rI IntMulOk fun i j=>.int (i * j)):=wJ fun _ _ _ _ _ _ _ hc q=>PyProof.Rows.mul_int q hc
def b5:R3:=fun x y S Q=>match x,y with
 | .int i,.int j=>IntMulOk i j/\Q (.int (i * j)) S
 | .ref a,.int j=>(match S a with|some (.lst xs)=>-(2 ^ 63)<=j/\j < 2 ^ 63/\xs.length * j.toNat<=sizeLine/\∀p,S p=none->Q (.ref p) (aw S p (.lst (List.replicate j.toNat xs).flatten))|_=>False)
 |_,_=>False
theorem Reps.rep{K:Vo}{H:Hp}{vs:List V}{ps:List PV}(r:Reps K H vs ps):∀n:Nat,Reps K H (List.replicate n vs).flatten (List.replicate n ps).flatten
 |0=>.nil
 |n+1=>by
  rw[Gf,Gf,Hr,Hr]
  exact r.append (Reps.rep r n)
def ba:gi X (binaryOp .Mult) b5:=⟨fun pins s σ H x y v u Q I rx ry ⟨px,py,S,Q3,r1,r2,rS,q,k⟩=>by
 unfold b5 at q
 split at q
 ·cases r1;cases r2
  exact rJ pins s σ H _ _ v u Q I rx ry ⟨_,_,rfl,rfl,q.1,k _ S _ H q.2 (.int _) rS .refl⟩
 ·split at q
  ·rename_i e
   cases r1;cases r2
   obtain⟨vs,hv,rs⟩:=rS _ _ e
   exact tU pins s σ H _ _ v u Q I rx ry ⟨_,_,_,rfl,rfl,hv,q.1,q.2.1,by rw[rs.length];exact q.2.2.1,fun p hp=>k _ _ _ _ (q.2.2.2 p (rS.free hp)) (.ref p) (rS.new hp ⟨_,aA,(rs.rep _).mono (.new hp)⟩) (.new hp)⟩
  ·exact q.elim
 ·exact q.elim⟩
end
end L3
namespace L2
open PySem PySem.Spec PyProof.Rows
end L2
namespace L3
open PySem L2
abbrev ms:=List PV->au->bY->Prop
section
variable {X:Cx} {e o:Expr} {es:List Expr} {te to:aT} {ts:List aT} {x:Str} {p pos apos cpos:Pos}
inductive LC (X:Cx) (r:ms) (xs:List V) (H:Hp) (Q:VK):Prop
 |mk (ps S Q3) (rx:Reps X.K H xs ps) (rS:yH X.K H S) (h:r ps S Q3) (k:BP X.K H Q3 Q):LC X r xs H Q
structure e_ (X:Cx) (f:Value) (r:ms):Prop where
 ok:eY X f (LC X r)
def ar(r:ms)(ts:List aT):aT:=fun σ S Q E=>bZ ts σ S (fun ps S1=>r ps S1 Q) E
def mv{r:ms}{σ:L2.St}{H:Hp}{Q:VK}:LE X (ar r ts) σ H Q->wM (ts.map (LE X)) σ H fun vs H1=>LC X r vs H1 Q:=fun⟨σ3,S,Q3,E3,rσ,rS,h,xo,k⟩=>
 cm rσ rS h xo fun ps S' vs H' hl q rv Ar g=>⟨ps,S',Q3,rv,Ar,q,k.mono g⟩
def rK{id:String}{r:ms}(hc:e_ X (.builtin id) r)(hg:Gl X x)(hm:X.mg x=none)(hv:bootBuiltins x=some (.builtin id))(he:starEach (e::es) X.env=(false,eval e X.env)::starEach es X.env)(ha:jq X (e::es) ts)
  (hn:x ≠ "__name__":=by decide) (hdb:(x == ("__debug__":Str))=false:=by decide) (hpl:(backTo pos (starEach es X.env)).any (·.1)=false:=by rfl):bj X (.Call (.Name x p) (e::es) [] pos) (ar r ts):=
 ⟨aS (oi hc.ok hg hm hv ha.ok hn hdb he hpl) fun _ _ _=>mv⟩
def rL{id:String}{r:ms}(hc:e_ X (.type id) r)(hg:Gl X x)(hm:X.mg x=none)(hv:bootBuiltins x=some (.type id))(he:starEach (e::es) X.env=(false,eval e X.env)::starEach es X.env)(ha:jq X (e::es) ts)
  (hn:x ≠ "__name__":=by decide) (hdb:(x == ("__debug__":Str))=false:=by decide) (hpl:(backTo pos (starEach es X.env)).any (·.1)=false:=by rfl):bj X (.Call (.Name x p) (e::es) [] pos) (ar r ts):=
 ⟨aS (mX hc.ok hg hm hv ha.ok hn hdb he hpl) fun _ _ _=>mv⟩
def eS:ms:=fun ps S Q=>match ps with
 |[.tup xs]=>Q (.int xs.length) S
 |[.cl xs]=>Q (.int xs.length) S
 |[.str z]=>z.length<=sizeLine/\Q (.int z.length) S
 |[.ref a]=>(match S a with|some (.lst xs)=>Q (.int xs.length) S|some (.dct kvs)=>Q (.int kvs.length) S|_=>False)
 |_=>False
def dW:e_ X (.builtin "len") eS:=⟨fun pins s σ H xs us Q I r ⟨ps,S,Q3,rp,rS,q,k⟩=>by
 unfold eS at q
 split at q
 ·cases rp with|cons a rr=>cases rr;cases a with|tup h rs=>exact cV pins s σ H _ us Q I r ⟨_,_,rfl,.inr h,by rw[rs.length];exact k _ S _ H q (.int _) rS .refl⟩
 ·cases rp with|cons a rr=>cases rr;cases a with|cl h rs=>exact cV pins s σ H _ us Q I r ⟨_,_,rfl,.inl h.sq,by rw[rs.length];exact k _ S _ H q (.int _) rS .refl⟩
 ·cases rp with|cons a rr=>cases rr;cases a;exact jN pins s σ H _ us Q I r ⟨_,rfl,q.1,k _ S _ H q.2 (.int _) rS .refl⟩
 ·cases rp with
  |cons a rr=>
   cases rr;cases a
   split at q
   ·rename_i e
    obtain⟨vs,hv,rs⟩:=rS _ _ e
    exact cV pins s σ H _ us Q I r ⟨_,_,rfl,.inl (SqL.of hv),by rw[rs.length];exact k _ S _ H q (.int _) rS .refl⟩
   ·rename_i e
    obtain⟨vs,hv,rs⟩:=rS _ _ e
    exact m7 pins s σ H _ us Q I r ⟨_,_,rfl,hv,by rw[rs.length];exact k _ S _ H q (.int _) rS .refl⟩
   ·exact q.elim
 ·exact q.elim⟩
def ni:ms:=fun ps S Q=>match ps with|[.int i]=>Q (.int (if i < 0 then -i else i)) S|_=>False
def v8:e_ X (.builtin "abs") ni:=⟨fun pins s σ H xs us Q I r ⟨ps,S,Q3,rp,rS,q,k⟩=>by
 unfold ni at q
 split at q
 ·cases rp with|cons a rr=>cases rr;cases a;exact oh pins s σ H _ us Q I r ⟨_,rfl,k _ S _ H q (.int _) rS .refl⟩
 ·exact q.elim⟩
def dX:ms:=fun ps S Q=>match ps with|[.int i,.int j]=>Q (.int (if j > i then j else i)) S|_=>False
def gk(hc:X.calm=true):e_ X (.builtin "max") dX:=⟨fun pins s σ H xs us Q I r ⟨ps,S,Q3,rp,rS,q,k⟩=>by
 unfold dX at q
 split at q
 ·cases rp with|cons a rr=>cases rr with|cons b r3=>cases r3;cases a;cases b;exact mV hc pins s σ H _ us Q I r ⟨_,_,rfl,k _ S _ H q (.int _) rS .refl⟩
 ·exact q.elim⟩
def gL:ms:=fun ps S Q=>match ps with|[.int i]=>Q (.int i) S|[.bl b]=>Q (.int (if b then 1 else 0)) S|_=>False
def sB:e_ X (.type "int") gL:=⟨fun pins s σ H xs us Q I r ⟨ps,S,Q3,rp,rS,q,k⟩=>by
 unfold gL at q
 split at q
 ·cases rp with|cons a rr=>cases rr;cases a;exact jc pins s σ H _ us Q I r (.inl ⟨_,rfl,k _ S _ H q (.int _) rS .refl⟩)
 ·cases rp with|cons a rr=>cases rr;cases a;exact jc pins s σ H _ us Q I r (.inr ⟨_,rfl,k _ S _ H q (.int _) rS .refl⟩)
 ·exact q.elim⟩
def aL:ms:=fun ps S Q=>match ps with
 |[v]=>(match lR S v with|some xs=>Q (.tup xs) S|none=>False)
 |_=>False
def bg:e_ X (.type "tuple") aL:=⟨fun pins s σ H xs us Q I r ⟨ps,S,Q3,rp,rS,q,k⟩=>by
 unfold aL at q
 split at q
 ·cases rp with
  |cons a rr=>
   cases rr
   split at q
   ·rename_i e
    obtain⟨b,vs,rfl,hs,rs⟩:=ud rS a e
    rcases hs with hs|hs
    ·exact eZ pins s σ H _ us Q I r ⟨_,_,rfl,.inl ⟨hs,fun p hp=>k _ S _ _ q (.tup (SqT.of aA) (rs.mono (.new hp))) (rS.other hp) (.new hp)⟩⟩
    ·exact eZ pins s σ H _ us Q I r ⟨_,_,rfl,.inr ⟨hs,k _ S _ _ q (.tup hs rs) rS .refl⟩⟩
   ·exact q.elim
 ·exact q.elim⟩
def jt:ms:=fun ps S Q=>match ps with
 |[.int _]=>False
 |[.str _]=>False
 |[.bl _]=>False
 |[.non]=>False
 |[.ty _]=>False
 |[v]=>∃d,Dat S v d/\d.showable=true/\d.hasDict=false/\d.depth<=100/\d.shown.length<=sizeLine/\Q (.str d.shown) S
 |_=>False
def o_(hu:X.A.units+150 < cLine)(hg:X.A.guards=some []):e_ X (.builtin "repr") jt:=⟨fun pins s σ H xs us Q I r ⟨ps,S,Q3,rp,rS,q,k⟩=>by
 unfold jt at q
 have main:∀{v:PV} {x:V} {u:Value} {a:Addr},u = .ref a->Rep X.K H x v->RelV x u->(∃d,Dat S v d/\d.showable=true/\d.hasDict=false/\d.depth<=100/\d.shown.length<=sizeLine/\Q3 (.str d.shown) S)->wpAny (model X.prog X.w) X.A (call (.builtin "repr") [u]) (EP X pins σ Q) X.xe s:=by
  rintro v x u a rfl rv rx ⟨d,hd,h1,h2,h3,h4,q⟩
  obtain⟨as,R⟩:=hd.reads I rS rv rx
  exact repr_of_reads' R h1 (PyData.noDict_hsm h2) hg (by omega) (fun _ _ e=>e) (fun h' u tk hk=>⟨.str _,H,I.kept hk,⟨u,rfl⟩,k _ S _ H q (.str _) rS .refl⟩) h4
 split at q
 ·exact q.elim
 ·exact q.elim
 ·exact q.elim
 ·exact q.elim
 ·exact q.elim
 ·rename_i n1 n2 n3 n4 n5
  cases rp with
  |cons a rr=>
   cases rr
   cases r with
   |cons r1 r2=>
    cases r2
    cases a with
    |non=>exact absurd rfl n4
    |bl b=>exact absurd rfl (n3 b)
    |int i=>exact absurd rfl (n1 i)
    |str i=>exact absurd rfl (n2 i)
    |ty i=>exact absurd rfl (n5 i)
    |ref b=>cases r1;exact main rfl (.ref b) rfl q
    |tup h rs=>cases r1;exact main rfl (.tup h rs) rfl q
    |cl h rs=>cases r1;exact main rfl (.cl h rs) rfl q
    |exc h1 h2 rs=>cases r1;exact main rfl (.exc h1 h2 rs) rfl q
    |cls h=>cases r1;exact main rfl (.cls h) rfl q
 ·exact q.elim⟩
end
abbrev qw:=PV->List PV->au->bY->Prop
section
variable {X:Cx} {e o:Expr} {es:List Expr} {te to:aT} {ts:List aT} {name:Str} {p pos apos cpos:Pos} {T id:String}
inductive LM (X:Cx) (r:qw) (x:V) (xs:List V) (H:Hp) (Q:VK):Prop
 |mk (px ps S Q3) (rx:Rep X.K H x px) (rs:Reps X.K H xs ps) (rS:yH X.K H S) (h:r px ps S Q3) (k:BP X.K H Q3 Q):LM X r x xs H Q
structure sC (X:Cx) (id:String) (r:qw):Prop where
 ok:vH X id (LM X r)
def u6(T:String)(x:PV)(S:au):Prop:=match x with
 | .str _=>T = "str"
 | .ref a=>(match S a with|some (.lst _)=>T = "list" | some (.dct _)=>T = "dict" | _=>False)
 | .cl _=>T = "list"
 |_=>False
def pg{H:Hp}{S:au}{v:V}{p:PV}(rS:yH X.K H S)(r:Rep X.K H v p)(h:u6 T p S):wK X.K T v H:=by
 cases r with
 |str x=>exact h
 |ref a=>
  unfold u6 at h
  simp only at h
  split at h
  ·rename_i e
   obtain⟨vs,hv,_⟩:=rS _ _ e
   exact .inl ⟨h,_,SqL.of hv⟩
  ·rename_i e
   obtain⟨vs,hv,_⟩:=rS _ _ e
   exact .inr (.inr (.inl ⟨h,.inl ⟨_,hv⟩⟩))
  ·exact h.elim
 |cl h1 _=>exact .inl ⟨h,_,h1.sq⟩
 |_=>exact h.elim
def kB(T:String)(r:qw)(to:aT)(ts:List aT):aT:=fun σ S Q E=>to σ S (fun x S1=>u6 T x S1/\bZ ts σ S1 (fun ps S2=>r x ps S2 Q) E) E
def xL{r:qw}(pa:PlainAttrs T)(slot:Slot T name id)(hty:typeOf (.builtin id)=pure (.type "method_descriptor"))(hm:sC X id r)(hs:starEach (e::es) X.env=(false,eval e X.env)::starEach es X.env)(ho:bj X o to)(ha:jq X (e::es) ts)
  (hbase:attributeBase o name X.env (eval o X.env)=eval o X.env:=by rfl)
  (hfew:((backTo cpos (starEach (e::es) X.env)).all (fun x=>!x.1)&&(backToKw cpos (keywordEach [] X.env)).all (fun x=>x.1.isSome)
   && decide ((e::es).length+([]:List Keyword).length+(if ([]:List Keyword).isEmpty then 0 else 1) < 30))=true:=by rfl)
  (hline:(apos.endLine == cpos.line)=true:=by rfl) (hplain:(backTo cpos (starEach es X.env)).any (·.1)=false:=by rfl):bj X (.Call (.Attribute o name apos) (e::es) [] cpos) (kB T r to ts):=
 ⟨aS (vK pa slot hty hm.ok ho.ok ha.ok hbase hfew hline hs hplain) fun σ H Q ⟨σ3,S,Q3,E3,rσ,rS,h,xo,k⟩=>⟨σ3,S,_,E3,rσ,rS,h,xo,fun x S1 v H1 h1 rx yT g1=>
  ⟨pg yT rx h1.1,cm (rσ.mono g1) yT h1.2 (xo.mono g1) fun ps S2 vs H2 hl q rv AW g2=>⟨x,ps,S2,Q3,rx.mono g2,rv,AW,q,k.mono (g1.trans g2)⟩⟩⟩⟩
def v9{r:qw}(pa:PlainAttrs T)(slot:Slot T name id)(hty:typeOf (.builtin id)=pure (.type "method_descriptor"))(hm:sC X id r)(ho:bj X o to)
  (hbase:attributeBase o name X.env (eval o X.env)=eval o X.env:=by rfl) (hline:(apos.endLine == cpos.line)=true:=by rfl):bj X (.Call (.Attribute o name apos) [] [] cpos) (kB T r to []):=
 ⟨aS (tQ pa slot hty hm.ok ho.ok hbase hline) fun σ H Q ⟨σ3,S,Q3,E3,rσ,rS,h,xo,k⟩=>⟨σ3,S,_,E3,rσ,rS,h,xo,fun x S1 v H1 h1 rx yT g1=>
  ⟨pg yT rx h1.1,⟨x,[],S1,Q3,rx,.nil,yT,h1.2,k.mono g1⟩⟩⟩⟩
def bK:qw:=fun x ps S Q=>match x,ps with
 | .ref a,[y]=>(match S a with|some (.lst xs)=>xs.length < sizeLine/\Q .non (aw S a (.lst (xs++[y])))|_=>False)
 |_,_=>False
def dY:sC X "list.append" bK:=⟨fun pins s σ H x xs v us Q I rx rs ⟨px,ps,S,Q3,r1,rp,rS,q,k⟩=>by
 unfold bK at q
 split at q
 ·split at q
  ·rename_i e
   cases r1
   cases rp with
   |cons b rr=>
    cases rr
    obtain⟨vs,hv,rl⟩:=rS _ _ e
    exact mY pins s σ H _ _ v us Q I rx rs ⟨_,_,_,rfl,rfl,hv,by rw[rl.length];exact q.1,k _ _ _ _ q.2 .non (rS.put hv trivial ⟨_,aA,(rl.append (.cons b .nil)).mono (.mut hv trivial)⟩) (.mut hv trivial)⟩
  ·exact q.elim
 ·exact q.elim⟩
def nj:qw:=fun x ps S Q=>match x,ps with
 | .ref a,[]=>(match S a with|some (.lst xs)=>(match xs[xs.length - 1]? with|some y=>Q y (aw S a (.lst xs.dropLast))|none=>False)|_=>False)
 | .ref a,[.int i]=>(match S a with|some (.lst xs)=>-(2 ^ 63)<=i/\i < 2 ^ 63/\(match seqIndex? i xs.length with|some j=>(match xs[j]? with|some y=>Q y (aw S a (.lst (xs.eraseIdx j)))|none=>False)|none=>False)|_=>False)
 |_,_=>False
def v_:sC X "list.pop" nj:=⟨fun pins s σ H x xs v us Q I rx rs ⟨px,ps,S,Q3,r1,rp,rS,q,k⟩=>by
 unfold nj at q
 split at q
 ·split at q
  ·rename_i e
   split at q
   ·rename_i ey
    cases r1
    cases rp
    obtain⟨vs,hv,rl⟩:=rS _ _ e
    rw[<-rl.length]at ey
    obtain⟨y',DY,ry⟩:=rl.get ey
    exact tR pins s σ H _ _ v us Q I rx rs ⟨_,_,_,rfl,rfl,hv,DY,k _ _ _ _ q (ry.mono (.mut hv trivial)) (rS.put hv trivial ⟨_,aA,rl.dropLast.mono (.mut hv trivial)⟩) (.mut hv trivial)⟩
   ·exact q.elim
  ·exact q.elim
 ·split at q
  ·rename_i e
   obtain⟨h1,h2,q⟩:=q
   split at q
   ·rename_i ej
    split at q
    ·rename_i ey
     cases r1
     cases rp with
     |cons b rr=>
      cases rr;cases b
      obtain⟨vs,hv,rl⟩:=rS _ _ e
      obtain⟨y',DY,ry⟩:=rl.get ey
      rw[<-rl.length]at ej
      exact ou pins s σ H _ _ v us Q I rx rs ⟨_,_,_,_,_,rfl,rfl,hv,h1,h2,ej,DY,k _ _ _ _ q (ry.mono (.mut hv trivial)) (rS.put hv trivial ⟨_,aA,(rl.eraseIdx _).mono (.mut hv trivial)⟩) (.mut hv trivial)⟩
    ·exact q.elim
   ·exact q.elim
  ·exact q.elim
 ·exact q.elim⟩
noncomputable def texts:List PV->Option (List Str)
 |[]=>some []
 | .str b::r=>(texts r).map (b::·)
 |_::_=>none
theorem im{K:Vo}{H:Hp}:∀{vs:List V} {ps:List PV} {bs:Vs},Reps K H vs ps->texts ps=some bs->vs=bs.map V.str
 |_,_,_,.nil,h=>by cases h;rfl
 |_,_,bs,.cons (p:=p) a r,h=>by
  cases p with
  |str b=>
   cases a
   unfold texts at h
   cases e:texts _ with
   |none=>rw[e]at h;cases h
   |some l=>rw[e]at h;cases h;rw[im r e];rfl
  |_=>cases h
def ju:qw:=fun x ps S Q=>match x,ps with
 | .str z,[.ref a]=>(match S a with|some (.lst xs)=>(match texts xs with|some ys=>(ys.map (·.length)).sum+ys.length * z.length<=1000000/\Q (.str (Txt.join z ys)) S|none=>False)|_=>False)
 |_,_=>False
def ph:sC X "str.join" ju:=⟨fun pins s σ H x xs v us Q I rx rs ⟨px,ps,S,Q3,r1,rp,rS,q,k⟩=>by
 unfold ju at q
 split at q
 ·split at q
  ·rename_i e
   split at q
   ·rename_i et
    cases r1
    cases rp with
    |cons b rr=>
     cases rr;cases b
     obtain⟨vs,hv,rl⟩:=rS _ _ e
     have e2:=im rl et
     subst e2
     exact rq pins s σ H _ _ v us Q I rx rs ⟨_,_,_,rfl,rfl,SqL.of hv,q.1,k _ S _ H q.2 (.str _) rS .refl⟩
   ·exact q.elim
  ·exact q.elim
 ·exact q.elim⟩
def gm:qw:=fun x ps S Q=>match x,ps with
 | .str a,[.str b]=>(match Builtin.Str.occurrences a b 0 a.length 1 with|i::_=>Q (.int i) S|[]=>False)
 |_,_=>False
def rM:sC X "str.index" gm:=⟨fun pins s σ H x xs v us Q I rx rs ⟨px,ps,S,Q3,r1,rp,rS,q,k⟩=>by
 unfold gm at q
 split at q
 ·split at q
  ·rename_i e
   cases r1
   cases rp with
   |cons b rr=>
    cases rr;cases b
    exact oF pins s σ H _ _ v us Q I rx rs ⟨_,_,_,_,rfl,rfl,e,k _ S _ H q (.int _) rS .refl⟩
  ·exact q.elim
 ·exact q.elim⟩
end
section
variable {X:Cx} {e c:Expr} {te:aT} {st:Stmt} {rest a b:List Stmt} {t u:bx} {tc:gV} {pos:Pos}
def aX:bx:=fun D σ S=>D.nx σ S
def ah(t u:bx):bx:=fun D σ S=>t { D with nx:=u D } σ S
def aJ:ik X [] aX:=⟨mo qE fun D σ H ⟨σ3,S,D3,rσ,rS,h,xo,n,r,bk,ct⟩=>n σ3 S σ H h rσ rS .refl⟩
def ad(h1:lK X st t)(h2:ik X rest u):ik X (st::rest) (ah t u):=
 ⟨mo (nW h1.ok h2.ok) fun D σ H ⟨σ3,S,D3,rσ,rS,h,xo,n,r,bk,ct⟩=>⟨σ3,S,{ D3 with nx:=u D3 },rσ,rS,h,xo,fun σ4 S' σ' H' h' B8 Ar g=>⟨σ4,S',D3,B8,Ar,h',xo.mono g,n.mono g,r.mono g,bk.mono g,ct.mono g⟩,r,bk,ct⟩⟩
def ak(h1:lK X st t):ik X [st] t:=⟨qF h1.ok⟩
def fb(te:aT):bx:=fun D σ S=>te σ S (fun _ S1=>D.nx σ S1) D.ex
def io(he:bj X e te)(hs:swapsWith e none pos.line X.env=pure false:=by rfl):lK X (.Expr e pos) (fb te):=
 ⟨cp (qG he.ok hs) fun D σ H ⟨σ3,S,D3,rσ,rS,h,xo,n,r,bk,ct⟩=>⟨σ3,S,_,D3.ex,rσ,rS,h,xo,fun p S1 v H1 h1 rv yT g1=>n σ3 S1 σ H1 h1 (rσ.mono g1) yT g1⟩⟩
def aE(te:aT):bx:=fun D σ S=>te σ S D.rt D.ex
def aq(he:bj X e te):lK X (.Return (some e) pos) (aE te):=
 ⟨cp (sY he.ok) fun D σ H ⟨σ3,S,D3,rσ,rS,h,xo,n,r,bk,ct⟩=>⟨σ3,S,D3.rt,D3.ex,rσ,rS,h,xo,r⟩⟩
def bW(c:gV)(t u:bx):bx:=fun D σ S=>c σ S (fun b S1=>if b=true then t D σ S1 else u D σ S1) D.ex
def bm(hc:lJ X c tc)(ha:ik X a t)(hb:ik X b u):lK X (.If c a b pos) (bW tc t u):=
 ⟨cp (vj hc.ok ha.ok hb.ok) fun D σ H ⟨σ3,S,D3,rσ,rS,h,xo,n,r,bk,ct⟩=>⟨σ3,S,_,D3.ex,rσ,rS,h,xo,fun z S1 H1 h1 yT g1=>by
  cases z with
  |true=>rw[if_pos rfl]at h1 ⊢;exact⟨σ3,S1,D3,rσ.mono g1,yT,h1,xo.mono g1,n.mono g1,r.mono g1,bk.mono g1,ct.mono g1⟩
  |false=>rw[if_neg (by decide)]at h1 ⊢;exact⟨σ3,S1,D3,rσ.mono g1,yT,h1,xo.mono g1,n.mono g1,r.mono g1,bk.mono g1,ct.mono g1⟩⟩⟩
def az(i:Nat)(te:aT):bx:=fun D σ S=>te σ S (fun v S1=>D.nx (σ.set i (some v)) S1) D.ex
def pk{i:Nat}{D:lr}{σ:L2.St}{H:Hp}:LS X (az i te) D σ H->qK (LE X te) (kG i) D σ H:=fun⟨σ3,S,D3,rσ,rS,h,xo,n,r,bk,ct⟩=>
 ⟨σ3,S,_,D3.ex,rσ,rS,h,xo,fun p S1 v H1 h1 rv yT g1=>n _ S1 _ H1 h1 ((rσ.mono g1).set rv i) yT g1⟩
def wa{i:Nat}{x:Str}{pos':Pos}(hN:X.N.Nodup)(hi:X.N[i]?=some x)(hx:sn X.env.scope x)(he:bj X e te)(hs:swapsWith e (some (.Name x pos')) pos.line X.env=pure false:=by rfl)
  (hf:X.fn x=true\/X.env.scope.names.lookup x=some .local:=by first|exact .inl rfl|exact .inr rfl|assumption):lK X (.Assign [.Name x pos'] e pos) (az i te):=⟨cp (tj hN hi hx he.ok hs hf) fun _ _ _=>pk⟩
def nk(i j:Nat)(ta tb:aT):bx:=fun D σ S=>ta σ S (fun v S1=>tb σ S1 (fun w S2=>D.nx ((σ.set i (some v)).set j (some w)) S2) D.ex) D.ex
def sD{i j:Nat}{x y:Str}{a b:Expr}{ta tb:aT}{px py pt:Pos}{kt k2 Cw}(hc:X.calm=true)(hN:X.N.Nodup)(hi:X.N[i]?=some x)(hj:X.N[j]?=some y)(hij:i≠j)
  (hx:X.env.scope.names.lookup x=some .local) (hy:X.env.scope.names.lookup y=some .local) (ha:jq X [a,b] [ta,tb])
  (hw:swappedStores [.Tuple [.Name x px,.Name y py] kt pt] (.Tuple [a,b] k2 Cw) X.env=pure (some [x,y]):=by rfl)
  (hs:swapsWithSole [.Tuple [.Name x px,.Name y py] kt pt] (.Tuple [a,b] k2 Cw) pos.line X.env=pure false:=by rfl) :
  lK X (.Assign [.Tuple [.Name x px,.Name y py] kt pt] (.Tuple [a,b] k2 Cw) pos) (nk i j ta tb):=
 ⟨cp (tm hc hN hi hj hij hx hy ha.ok hw hs) fun D σ H ⟨σ3,S,D3,rσ,rS,h,xo,n,r,bk,ct⟩=>
  ⟨σ3,S,_,D3.ex,rσ,rS,h,xo,fun v S1 v' H1 h1 rv yT g1=>⟨σ3,S1,_,D3.ex,rσ.mono g1,yT,h1,xo.mono g1,fun w S2 w' H2 h2 rw' AW g2=>
   ⟨v',w',rfl,n _ S2 _ H2 h2 (((rσ.mono (g1.trans g2)).set (rv.mono g2) i).set rw' j) AW (g1.trans g2)⟩⟩⟩⟩
def ip(i j k:Nat)(te:aT):bx:=fun D σ S=>te σ S (fun p S1=>match p with | .tup [v,w,u]=>D.nx (((σ.set k (some u)).set j (some w)).set i (some v)) S1|_=>False) D.ex
def rN{i j k:Nat}{x y z:Str}{px py pz pt:Pos}{kt:Nat}(hc:X.calm=true)(hN:X.N.Nodup)(hi:X.N[i]?=some x)(hj:X.N[j]?=some y)(hk:X.N[k]?=some z)
  (hx:X.env.scope.names.lookup x=some .local) (hy:X.env.scope.names.lookup y=some .local) (hz:X.env.scope.names.lookup z=some .local) (he:bj X e te)
  (hw:swappedStores [.Tuple [.Name x px,.Name y py,.Name z pz] kt pt] e X.env=pure (some [x,y,z]):=by rfl)
  (hs:swapsWithSole [.Tuple [.Name x px,.Name y py,.Name z pz] kt pt] e pos.line X.env=pure false:=by rfl):lK X (.Assign [.Tuple [.Name x px,.Name y py,.Name z pz] kt pt] e pos) (ip i j k te):=
 ⟨cp (oG hc hN hi hj hk hx hy hz he.ok hw hs) fun D σ H ⟨σ3,S,D3,rσ,rS,h,xo,n,r,bk,ct⟩=>⟨σ3,S,_,D3.ex,rσ,rS,h,xo,fun p S1 v H1 h1 rv yT g1=>by
  try dsimp only at h1
  split at h1
  ·cases rv with
   |tup hq rs=>
    cases rs with
    |cons r1 rs=>
     cases rs with
     |cons r2 rs=>
      cases rs with
      |cons r3 rs=>
       cases rs
       exact⟨_,_,_,_,rfl,hq,n _ S1 _ H1 h1 ((((rσ.mono g1).set r3 k).set r2 j).set r1 i) yT g1⟩
  ·exact h1.elim⟩⟩
inductive Tg where
 |n (i:Nat)|tp (l:Tg)|nil|cons (a r:Tg)
mutual
noncomputable def Tg.put:Tg->PV->bV->Option bV
 | .n i,p,σ=>some (σ.set i (some p))
 | .tp l,.tup xs,σ=>l.zB xs σ
 |_,_,_=>none
noncomputable def Tg.zB:Tg->List PV->bV->Option bV
 | .nil,[],σ=>some σ
 | .cons a r,x::xs,σ=>(match a.put x σ with|some σ'=>r.zB xs σ'|none=>none)
 |_,_,_=>none
end
noncomputable def Tg.len:Tg->Nat
 | .cons _ r=>r.len+1
 |_=>0
mutual
noncomputable def Tg.g2(K:Vo):Tg->TG
 | .n i=>kG i
 | .tp l=>vn K l.len (l.Cp K)
 |_=>fun _ _ _ _=>False
noncomputable def Tg.Cp(K:Vo):Tg->sr
 | .nil=>vm
 | .cons a r=>ss (a.g2 K) (r.Cp K)
 |_=>fun _ _ _ _=>False
end
noncomputable def Tg.under(own:Nat):Tg->Bool
 | .n i=>decide (i < own)
 | .tp l=>l.under own
 | .nil=>true
 | .cons a r=>a.under own&&r.under own
theorem Tg.Bs:∀(g:Tg) {ps:List PV} {σ3 σ4:bV},g.zB ps σ3=some σ4->ps.length=g.len
 | .nil,ps,σ3,σ4,h=>by
  cases ps with
  |nil=>rfl
  |cons _ _=>unfold Tg.zB at h;cases h
 | .cons a r,ps,σ3,σ4,h=>by
  cases ps with
  |nil=>unfold Tg.zB at h;cases h
  |cons x xs=>
   unfold Tg.zB at h
   split at h
   ·rw[F7,Tg.Bs r h];rfl
   ·cases h
 | .n _,ps,σ3,σ4,h=>by unfold Tg.zB at h;cases h
 | .tp _,ps,σ3,σ4,h=>by unfold Tg.zB at h;cases h
mutual
theorem Tg.Bc{K:Vo}{H:Hp}{own:Nat}:∀(g:Tg) {v:V} {p:PV} {σ:L2.St} {σ3 σ4:bV} {Q:L2.St->Hp->Prop},Rep K H v p->yL K H σ σ3->g.put p σ3=some σ4->(∀σ',yL K H σ' σ4->(g.under own=true->σ'.drop own=σ.drop own)->Q σ' H)->g.g2 K v σ H Q
 | .n i,v,p,σ,σ3,σ4,Q,r,rσ,h,k=>by
  unfold Tg.put at h
  cases h
  unfold Tg.g2
  refine k _ (rσ.set r i) fun hb=>?_
  have hi:i < own:=of_decide_eq_true hb
  rw[List.drop_set]
  rw[if_pos hi]
 | .tp l,v,p,σ,σ3,σ4,Q,r,rσ,h,k=>by
  cases p with
  |tup xs=>
   unfold Tg.put at h
   cases r with
   |tup hq rs=>
    have hg:=Tg.BI (own:=own) l rs rσ h k
    unfold Tg.g2
    exact⟨_,_,rfl,hq,rs.length.trans (Tg.Bs l h),hg⟩
  |_=>unfold Tg.put at h;cases h
 | .nil,v,p,σ,σ3,σ4,Q,r,rσ,h,k=>by unfold Tg.put at h;cases h
 | .cons _ _,v,p,σ,σ3,σ4,Q,r,rσ,h,k=>by unfold Tg.put at h;cases h
theorem Tg.BI{K:Vo}{H:Hp}{own:Nat}:∀(g:Tg) {vs:List V} {ps:List PV} {σ:L2.St} {σ3 σ4:bV} {Q:L2.St->Hp->Prop},Reps K H vs ps->yL K H σ σ3->g.zB ps σ3=some σ4->(∀σ',yL K H σ' σ4->(g.under own=true->σ'.drop own=σ.drop own)->Q σ' H)->g.Cp K vs σ H Q
 | .nil,vs,ps,σ,σ3,σ4,Q,r,rσ,h,k=>by
  cases ps with
  |nil=>
   unfold Tg.zB at h
   cases h
   cases r
   unfold Tg.Cp
   exact⟨rfl,k _ rσ fun _=>rfl⟩
  |cons _ _=>unfold Tg.zB at h;cases h
 | .cons a r',vs,ps,σ,σ3,σ4,Q,r,rσ,h,k=>by
  cases ps with
  |nil=>unfold Tg.zB at h;cases h
  |cons x xs=>
   unfold Tg.zB at h
   split at h
   ·rename_i σ5 e5
    cases r with
    |cons r1 r2=>
     unfold Tg.Cp
     refine⟨_,_,rfl,Tg.Bc (own:=own) a r1 rσ e5 fun σ' B8 d1=>Tg.BI (own:=own) r' r2 B8 h fun Fh DZ d2=>k Fh DZ fun hb=>?_⟩
     have hb':a.under own=true/\r'.under own=true:=by simpa [Tg.under]using hb
     rw[d2 hb'.2,d1 hb'.1]
   ·cases h
 | .n _,vs,ps,σ,σ3,σ4,Q,r,rσ,h,k=>by unfold Tg.zB at h;cases h
 | .tp _,vs,ps,σ,σ3,σ4,Q,r,rσ,h,k=>by unfold Tg.zB at h;cases h
end
structure qx (X:Cx) (e:Expr) (g:Tg):Prop where
 ok:PG X e (g.g2 X.K)
structure rO (X:Cx) (es:List Expr) (g:Tg):Prop where
 ok:vk X es (g.Cp X.K)
 len:(assignEach es X.env).length=g.len
def yx(i:Nat){x:Str}(hN:X.N.Nodup)(hi:X.N[i]?=some x)(hx:sn X.env.scope x)(hf:X.fn x=true\/X.env.scope.names.lookup x=some .local:=by first|exact .inl rfl|exact .inr rfl|assumption):qx X (.Name x pos) (.n i):=⟨by
 have h:=qI (pos:=pos) hN hi hx hf
 unfold Tg.g2
 exact h⟩
def jv:rO X [] .nil:=⟨by unfold Tg.Cp;exact qJ,rfl⟩
def bD{es:List Expr}{a r:Tg}(h1:qx X e a)(h2:rO X es r)(hs:(assignEach (e::es) X.env).map (·.2)=assign e X.env::(assignEach es X.env).map (·.2):=by rfl)(hl:(assignEach (e::es) X.env).length=(assignEach es X.env).length+1:=by rfl):rO X (e::es) (.cons a r):=
 ⟨by unfold Tg.Cp;exact nX h1.ok h2.ok hs,by rw[hl,h2.len];rfl⟩
def u7{es:List Expr}{k:Nat}{l:Tg}(hc:X.calm=true)(h:rO X es l)(hst:(assignEach es X.env).findIdx? (·.1)=none:=by rfl):qx X (.Tuple es k pos) (.tp l):=⟨by
 have h:=s9 (pos:=pos) (k:=k) hc h.ok h.len hst
 unfold Tg.g2
 exact h⟩
def nl(te:aT)(g:Tg):bx:=fun D σ S=>te σ S (fun v S1=>match g.put v σ with|some σ'=>D.nx σ' S1|none=>False) D.ex
def wb{tg:Expr}{g:Tg}(he:bj X e te)(hg:qx X tg g)(hs:swapsWithSole [tg] e pos.line X.env=pure false:=by rfl)(hw:swappedStores [tg] e X.env=pure none:=by rfl)
  (h1:(assignEach [tg] X.env).map (·.2)=[assign tg X.env]:=by rfl):lK X (.Assign [tg] e pos) (nl te g):=
 ⟨cp (nY he.ok hg.ok hs hw h1) fun D σ H ⟨σ3,S,D3,rσ,rS,h,xo,n,r,bk,ct⟩=>⟨σ3,S,_,D3.ex,rσ,rS,h,xo,fun p S1 v H1 h1 rv yT g1=>by
  try dsimp only at h1
  split at h1
  ·rename_i σ' e'
   exact Tg.Bc (own:=0) g rv (rσ.mono g1) e' fun σ2 Fi _=>n _ S1 _ H1 h1 Fi yT g1
  ·exact h1.elim⟩⟩
end
noncomputable def jZ{κ:Type} [DecidableEq κ](kvs:List (κ×PV))(k:κ)(v:PV):List (κ×PV):=
 if (kvs.any fun kv=>decide (kv.1=k))=true then kvs.map (fun kv=>if kv.1=k then (kv.1,v) else kv) else kvs++[(k,v)]
theorem yU.append{K:Vo}{H:Hp}{κ:Type}:∀{vs us:List (κ×V)} {ps qs:List (κ×PV)},yU K H vs ps->yU K H us qs->yU K H (vs++us) (ps++qs)
 |_,_,_,_,.nil,s=>s
 |_,_,_,_,.cons a r,s=>.cons a (yU.append r s)
def yU.put{K:Vo}{H:Hp}{κ:Type} [DecidableEq κ]{k:κ}{v:V}{p:PV}(q:Rep K H v p){vs:List (κ×V)}{ps:List (κ×PV)}(r:yU K H vs ps):yU K H (dP vs k v) (jZ ps k p):=by
 have e:(vs.any fun kv=>decide (kv.1=k))=(ps.any fun kv=>decide (kv.1=k)):=by rw[hW,r.any]
 unfold dP jZ
 rw[e]
 split
 ·clear e
  rename_i h
  clear h
  induction r with
  |nil=>exact .nil
  |@cons k' v' p' vs' ps' a r ih=>
   rw[Gd,Gd]
   by_cases z:k'=k
   ·rw[if_pos z,if_pos z];exact .cons q ih
   ·rw[if_neg z,if_neg z];exact .cons a ih
 ·exact r.append (.cons q .nil)
def gq(o i v:PV)(S:au)(Q:au->Prop):Prop:=match o with
 | .ref a=>(match S a with
  |some (.lst xs)=>(match i with | .int k=>(match mf xs.length k with|some j=>Q (aw S a (.lst (xs.set j v)))|none=>False)|_=>False)
  |some (.dct kvs)=>(match lS i with|some k=>kvs.length < sizeLine/\Q (aw S a (.dct (jZ kvs k v)))|none=>False)
  |_=>False)
 |_=>False
section
variable {X:Cx} {e o i:Expr} {te to ti:aT} {pos pos':Pos}
noncomputable def xM(X:Cx):V->V->V->Hp->(Hp->Prop)->Prop:=fun o i v H Q=>∃po pi pv S Q3,Rep X.K H o po/\Rep X.K H i pi/\Rep X.K H v pv/\yH X.K H S/\gq po pi pv S Q3/\∀S' H',Q3 S'->yH X.K H' S'->Grow X.K H H'->Q H'
def ue(hu:X.A.units+1 < cLine):qH X (xM X):=by
 intro pins s σ H o i v ov iv u Q I ro ri rv ⟨po,pi,pv,S,Q3,r1,r2,r3,rS,q,k⟩
 unfold gq at q
 split at q
 ·split at q
  ·rename_i e
   split at q
   ·split at q
    ·rename_i ej
     cases r1;cases r2
     obtain⟨vs,hv,rl⟩:=rS _ _ e
     rw[<-rl.length]at ej
     exact oo pins s σ H _ _ _ ov iv u Q I ro ri rv ⟨_,_,_,_,rfl,rfl,hv,ej,k _ _ q (rS.put hv trivial ⟨_,aA,((rl.set r3 _).mono (.mut hv trivial))⟩) (.mut hv trivial)⟩
    ·exact q.elim
   ·exact q.elim
  ·rename_i e
   split at q
   ·rename_i ek
    cases r1
    have e1:=cW r2 ek
    subst e1
    obtain⟨kv,hv,rk⟩:=rS _ _ e
    exact o0 hu pins s σ H _ _ _ ov iv u Q I ro ri rv ⟨_,_,rfl,BV.k hv (by rw[rk.length];exact q.1),k _ _ q.2 (rS.put hv trivial ⟨_,aA,(rk.put r3).mono (.mut hv trivial)⟩) (.mut hv trivial)⟩
   ·exact q.elim
  ·exact q.elim
 ·exact q.elim
def i3(te to ti:aT):bx:=fun D σ S=>te σ S (fun v S1=>to σ S1 (fun o S2=>ti σ S2 (fun i S3=>gq o i v S3 (fun S4=>D.nx σ S4)) D.ex) D.ex) D.ex
def jx(hu:X.A.units+1 < cLine)(he:bj X e te)(ho:bj X o to)(hi:bj X i ti)
  (ha:∀v,assign (.Subscript o i pos') X.env v=(do
   let ov <-holding [v] (eval o X.env)
   let iv <-holding [v,ov] (eval i X.env)
   standAt pos'
   holding [v,ov,iv] (setItem ov iv v)
   release [v,ov,iv] []):=by intro _;rfl)
  (hs:swapsWithSole [.Subscript o i pos'] e pos.line X.env=pure false:=by rfl) (hw:swappedStores [.Subscript o i pos'] e X.env=pure none:=by rfl)
  (h1:(assignEach [.Subscript o i pos'] X.env).map (·.2)=[assign (.Subscript o i pos') X.env]:=by rfl):lK X (.Assign [.Subscript o i pos'] e pos) (i3 te to ti):=
 ⟨cp (nY he.ok (s_ ho.ok hi.ok (ue hu) ha) hs hw h1) fun D σ H ⟨σ3,S,D3,rσ,rS,h,xo,n,r,bk,ct⟩=>⟨σ3,S,_,D3.ex,rσ,rS,h,xo,fun v S1 v' H1 h1 rv yT g1=>
  ⟨σ3,S1,_,D3.ex,rσ.mono g1,yT,h1,xo.mono g1,fun o S2 o' H2 h2 ro AW g2=>⟨σ3,S2,_,D3.ex,rσ.mono (g1.trans g2),AW,h2,xo.mono (g1.trans g2),fun i S3 i' H3 h3 ri CH g3=>
   ⟨o,i,v,S3,_,ro.mono g3,ri,rv.mono (g2.trans g3),CH,h3,fun S4 H4 h4 Fj g4=>n _ S4 _ H4 h4 (rσ.mono (g1.trans (g2.trans (g3.trans g4)))) Fj (g1.trans (g2.trans (g3.trans g4)))⟩⟩⟩⟩⟩
end
end L3
namespace L2
open PySem PySem.Spec PyProof.Rows
section
variable {X:Cx} {tg:Expr}
def xN(K:Vo)(tl:TE):TI:=fun σ H R=>tl σ H fun x H1=>(∃a,x = .ref a/\(∃xs,SqL K H1 a xs)/\R (wG K a) H1)\/(∃a,x = .ref a/\(∃xs,SqT K H1 a xs)/\R (xg K a) H1)\/∃z,x = .str z/\R (xG z) H1
def uf{l:Expr}{tl:TE}(hl:PE X l tl):PI X tg l (xN X.K tl):=by
 intro pins s σ H R I h
 refine yK (hl pins s σ H _ I h) fun v s1 ⟨x,H1,I1,r1,q1⟩=>?_
 rcases q1 with⟨a,e,⟨xs,hq⟩,q⟩|⟨a,e,⟨xs,hq⟩,q⟩|⟨z,e,q⟩
 ·subst e
  cases r1
  obtain⟨its,rv,p,hz⟩:=I1.list hq
  refine Gu p.isList ?_
  refine⟨s1.heap.objs.size,[s1.heap.objs.size],_,_,H1,rfl,I1.kept (t':=s1.toks) fun b o e=>FP _ e,mR a _,⟨_,F0 _ rfl,rfl,rfl⟩,fun b hb=>?_,q⟩
  have e:b=s1.heap.objs.size:=by simpa using hb
  subst e
  exact I1.A7 (FQ _) (I1.hok.fresh (FQ _))
 ·subst e
  cases r1
  obtain⟨its,rv,p,hz⟩:=I1.tuple hq
  refine Gm (show s1.heap.IsTuple a its.toArray from p) ?_
  refine⟨s1.heap.objs.size,[s1.heap.objs.size],_,_,H1,rfl,I1.kept (t':=s1.toks) fun b o e=>FP _ e,ls a _,⟨_,F0 _ rfl,rfl,rfl⟩,fun b hb=>?_,q⟩
  have e:b=s1.heap.objs.size:=by simpa using hb
  subst e
  exact I1.A7 (FQ _) (I1.hok.fresh (FQ _))
 ·subst e
  obtain⟨t,rfl⟩:=r1
  have fin:∀ty,(ty = "str_ascii_iterator" \/ ty = "str_iterator")->w_ X pins σ tg R (.ref s1.heap.objs.size) { s1 with heap:=s1.heap.push { cls:=.type ty,data:=.fields #[.str z t,.int 0 0] } }:=fun ty hty=>by
   refine⟨s1.heap.objs.size,[s1.heap.objs.size],_,_,H1,rfl,I1.kept (t':=s1.toks) fun b o e=>FP _ e,oE hty _ z t,⟨Gv _,_,F0 _ rfl,rfl,rfl⟩,fun b hb=>?_,q⟩
   have e:b=s1.heap.objs.size:=by simpa using hb
   subst e
   exact I1.A7 (FQ _) (I1.hok.fresh (FQ _))
  cases ha:z.cps.all (· < 128)
  ·exact wpAny_pyIter_wide ha (fin _ (.inr rfl))
  ·exact wpAny_pyIter_ascii ha (fin _ (.inl rfl))
end
end L2
namespace L3
open PySem L2
structure xO where
 items:List PV
 keep:au->Prop
def gM(K:Vo)(H0:Hp)(J:It)(src:xO):Prop:=∀(i:Nat) (S:au) (H:Hp),Grow K H0 H->yH K H S->src.keep S->
 (∀p,src.items[i]?=some p->J.go i H/\∀x H',J.Dq i H x H'->Rep K H' x p/\yH K H' S/\Grow K H H')/\(i=src.items.length->J.stop i H)
abbrev pp:=bV->au->(xO->au->Prop)->ci->Prop
inductive LI (X:Cx) (t:pp) (σ:L2.St) (H:Hp) (R:It->Hp->Prop):Prop
 |mk (σ3 S R3 E3) (rσ:yL X.K H σ σ3) (rS:yH X.K H S) (h:t σ3 S R3 E3) (xo:BO X H E3) (k:∀src S' J H',R3 src S'->gM X.K H' J src->yH X.K H' S'->Grow X.K H H'->R J H'):LI X t σ H R
structure rP (X:Cx) (tg iter:Expr) (t:pp):Prop where
 ok:PI X tg iter (LI X t)
def j0{X:Cx}{tg iter:Expr}{t t':TI}(h:PI X tg iter t)(k:∀σ H R,t' σ H R->t σ H R):PI X tg iter t':=fun pins s σ H R I q=>h pins s σ H R I (k σ H R q)
section
variable {X:Cx} {e tg:Expr} {es:List Expr} {te:aT} {ts:List aT} {p pos:Pos}
noncomputable def iq(S:au):PV->Option xO
 | .tup xs=>some ⟨xs,fun _=>True⟩
 | .cl xs=>some ⟨xs,fun _=>True⟩
 | .str z=>some ⟨z.cps.toList.map fun c=>.str (jT c),fun _=>True⟩
 | .ref a=>(match S a with|some (.lst xs)=>some ⟨xs,fun S'=>S' a=some (.lst xs)⟩|_=>none)
 |_=>none
def bL(te:aT):pp:=fun σ S R E=>te σ S (fun v S1=>match iq S1 v with|some src=>R src S1|none=>False) E
end
section
variable {X:Cx} {e tg a b:Expr} {es:List Expr} {te ta tb:aT} {ts:List aT} {p pos:Pos}
def pr{K:Vo}{H0:Hp}{a:Addr}{xs:List PV}:gM K H0 (wG K a) ⟨xs,fun S'=>S' a=some (.lst xs)⟩:=by
 intro i S H g rS hk
 obtain⟨vs,hv,rs⟩:=rS a _ hk
 refine⟨fun p hp=>?_,fun hi=>⟨vs,SqL.of hv,by rw[rs.length,hi];exact FQ _⟩⟩
 obtain⟨v,hx,rv⟩:=rs.get hp
 refine⟨⟨vs,v,SqL.of hv,hx⟩,fun x H' ⟨e,h⟩=>?_⟩
 subst e
 have:=h vs (SqL.of hv)
 rw[hx]at this
 cases this
 exact⟨rv,rS,.refl⟩
def rQ{K:Vo}{H0:Hp}{a:Addr}{vs:List V}{xs:List PV}(h:SqT K H0 a vs)(rs:Reps K H0 vs xs):gM K H0 (xg K a) ⟨xs,fun _=>True⟩:=by
 intro i S H g rS _
 have hv:=g.t _ _ h
 refine⟨fun p hp=>?_,fun hi=>⟨vs,hv,by rw[rs.length,hi];exact FQ _⟩⟩
 obtain⟨v,hx,rv⟩:=rs.get hp
 refine⟨⟨vs,v,hv,hx⟩,fun x H' ⟨e,h⟩=>?_⟩
 subst e
 have:=h vs hv
 rw[hx]at this
 cases this
 exact⟨rv.mono g,rS,.refl⟩
def ug{K:Vo}{H0:Hp}{a:Addr}{vs:List V}{xs:List PV}(h:CV K H0 a vs)(rs:Reps K H0 vs xs):gM K H0 (wG K a) ⟨xs,fun _=>True⟩:=by
 intro i S H g rS _
 have hv:=(g.c _ _ h).sq
 refine⟨fun p hp=>?_,fun hi=>⟨vs,hv,by rw[rs.length,hi];exact FQ _⟩⟩
 obtain⟨v,hx,rv⟩:=rs.get hp
 refine⟨⟨vs,v,hv,hx⟩,fun x H' ⟨e,h⟩=>?_⟩
 subst e
 have:=h vs hv
 rw[hx]at this
 cases this
 exact⟨rv.mono g,rS,.refl⟩
def rR{K:Vo}{H0:Hp}{z:Str}:gM K H0 (xG z) ⟨z.cps.toList.map fun c=>.str (jT c),fun _=>True⟩:=by
 intro i S H g rS _
 refine⟨fun p hp=>?_,fun hi=>by show z.cps.size<=i;rw[hi,FZ,IL];exact FQ _⟩
 rw[F4]at hp
 cases hc:z.cps.toList[i]? with
 |none=>rw[hc]at hp;cases hp
 |some c=>
  rw[hc]at hp
  cases hp
  have hc':z.cps[i]?=some c:=by simpa using hc
  refine⟨?_,fun x H' ⟨e,c',h1,h2⟩=>?_⟩
  ·show i < z.cps.size
   by_cases hi:i < z.cps.size
   ·exact hi
   ·rw[Array.getElem?_eq_none (by omega)]at hc';cases hc'
  ·subst e
   rw[hc']at h1
   cases h1
   subst h2
   exact⟨.str _,rS,.refl⟩
def dE(he:bj X e te):rP X tg e (bL te):=⟨j0 (uf he.ok) fun σ H R ⟨σ3,S,R3,E3,rσ,rS,h,xo,k⟩=>⟨σ3,S,_,E3,rσ,rS,h,xo,fun v S1 v' H1 h1 rv yT g1=>by
 split at h1
 ·rename_i src hs
  unfold iq at hs
  split at hs
  ·cases hs
   cases rv with
   |tup hq rs=>exact .inr (.inl ⟨_,rfl,⟨_,hq⟩,k _ S1 _ H1 h1 (rQ hq rs) yT g1⟩)
  ·cases hs
   cases rv with
   |cl hq rs=>exact .inl ⟨_,rfl,⟨_,hq.sq⟩,k _ S1 _ H1 h1 (ug hq rs) yT g1⟩
  ·cases hs
   cases rv
   exact .inr (.inr ⟨_,rfl,k _ S1 _ H1 h1 rR yT g1⟩)
  ·cases rv
   split at hs
   ·rename_i ea
    cases hs
    obtain⟨vs,hv,rs⟩:=yT _ _ ea
    exact .inl ⟨_,rfl,⟨_,SqL.of hv⟩,k _ S1 _ H1 h1 pr yT g1⟩
   ·cases hs
  ·cases hs
 ·exact h1.elim⟩⟩
noncomputable def aV(lo:Int)(n:Nat):List PV:=(List.range n).map fun(i:Nat)=>PV.int (lo+i)
def nq{K:Vo}{H0:Hp}{lo:Int}{n:Nat}:gM K H0 (wH lo n) ⟨aV lo n,fun _=>True⟩:=by
 intro i S H g rS _
 refine⟨fun p hp=>?_,fun hi=>by show n<=i;rw[hi];simp[aV]⟩
 unfold aV at hp
 rw[F4]at hp
 by_cases hi:i < n
 ·rw[IP hi]at hp
  cases hp
  refine⟨hi,fun x H' ⟨e,h⟩=>?_⟩
  subst e h
  exact⟨.int _,rS,.refl⟩
 ·rw[Hh (by simpa using hi)]at hp
  cases hp
def dH(ta:aT):pp:=fun σ S R E=>ta σ S (fun v S1=>match v with | .int j=>-(2 ^ 62)<=j/\j < 2 ^ 62/\R ⟨aV 0 j.toNat,fun _=>True⟩ S1|_=>False) E
def bz(hs:starEach [a] X.env=[(false,eval a X.env)])(hg:Gl X "range")(hm:X.mg "range" = none)(ha:jq X [a] [ta]):rP X tg (.Call (.Name "range" p) [a] [] pos) (dH ta):=
 ⟨j0 (mS hg hm ha.ok hs) fun σ H R ⟨σ3,S,R3,E3,rσ,rS,h,xo,k⟩=>⟨σ3,S,_,E3,rσ,rS,h,xo,fun v S1 v' H1 h1 rv yT g1=>by
  split at h1
  ·cases rv
   exact⟨_,rfl,h1.1,h1.2.1,k _ S1 _ H1 h1.2.2 nq yT g1⟩
  ·exact h1.elim⟩⟩
noncomputable def cY(xs ys:List PV):List PV:=(xs.zip ys).map fun z=>.tup [z.1,z.2]
def Ce(K:Vo)(H0:Hp)(ka:Bool)(a:Addr)(xs:List PV)(keep:au->Prop):Prop:=∀S H,Grow K H0 H->yH K H S->keep S->∃vs,iV ka K H a vs/\Reps K H vs xs
def Ce.tup{K:Vo}{H0:Hp}{a:Addr}{vs:List V}{xs:List PV}{keep:au->Prop}(h:SqT K H0 a vs)(r:Reps K H0 vs xs):Ce K H0 false a xs keep:=fun _ _ g _ _=>⟨vs,g.t _ _ h,r.mono g⟩
def rT{K:Vo}{H0:Hp}{ka kb:Bool}{a b:Addr}{xs ys:List PV}{keep:au->Prop}(h1:Ce K H0 ka a xs keep)(h2:Ce K H0 kb b ys keep):gM K H0 (xI ka kb K a b) ⟨cY xs ys,keep⟩:=by
 intro i S H g rS kp
 obtain⟨vs,hv,r1⟩:=h1 S H g rS kp
 obtain⟨us,hu,r2⟩:=h2 S H g rS kp
 have l1:=r1.length
 have l2:=r2.length
 refine⟨fun p hp=>?_,fun hi=>⟨vs,us,hv,hu,?_⟩⟩
 ·unfold cY at hp
  rw[F4]at hp
  cases hz:(xs.zip ys)[i]? with
  |none=>rw[hz]at hp;cases hp
  |some z=>
   rw[hz]at hp
   cases hp
   obtain⟨e1,e2⟩:=Hj.mp hz
   obtain⟨v,hx',rv⟩:=r1.get e1
   obtain⟨u,hy',ru⟩:=r2.get e2
   refine⟨⟨vs,us,v,u,hv,hu,hx',hy'⟩,fun x H' ⟨q,x2,y2,e3,hq,e4,h⟩=>?_⟩
   subst e3 e4
   obtain⟨k1,k2⟩:=h vs us hv hu
   rw[hx']at k1
   rw[hy']at k2
   cases k1;cases k2
   exact⟨.tup (SqT.of aA) (.cons (rv.mono (.new hq)) (.cons (ru.mono (.new hq)) .nil)),rS.other hq,.new hq⟩
 ·have e:(cY xs ys).length=min xs.length ys.length:=by simp[cY]
  rw[e]at hi
  by_cases hle:xs.length<=ys.length
  ·exact .inl (by omega)
  ·exact .inr (by omega)
def nu(ta tb:aT):pp:=fun σ S R E=>ta σ S (fun v S1=>tb σ S1 (fun w S2=>match v,w with
 | .tup xs,.tup ys=>R ⟨cY xs ys,fun _=>True⟩ S2
 |_,_=>False) E) E
def sE{elts:List Expr}{k0:Nat}{AV:Pos}(hs:starEach [a,b] X.env=[(false,eval a X.env),(false,eval b X.env)])(hs2:starEach [b] X.env=[(false,eval b X.env)])(hg:Gl X "zip")(hm:X.mg "zip" = none)(hv:bootBuiltins "zip" = some (.type "zip"))(ha:jq X [a,b] [ta,tb]) :
  rP X (.Tuple elts k0 AV) (.Call (.Name "zip" p) [a,b] [] pos) (nu ta tb):=
 ⟨j0 (t6 hg hm hv ha.ok hs hs2) fun σ H R ⟨σ3,S,R3,E3,rσ,rS,h,xo,k⟩=>⟨σ3,S,_,E3,rσ,rS,h,xo,fun v S1 v' H1 h1 rv yT g1=>⟨σ3,S1,_,E3,rσ.mono g1,yT,h1,xo.mono g1,fun w S2 w' H2 h2 rw' AW g2=>by
  split at h2
  ·cases rv with
   |tup hq rs=>
    cases rw' with
    |tup hq2 D_=>exact⟨false,false,_,_,rfl,⟨_,g2.t _ _ hq⟩,⟨_,hq2⟩,k _ S2 _ H2 h2 (rT (.tup (g2.t _ _ hq) (rs.mono g2)) (.tup hq2 D_)) AW (g1.trans g2)⟩
  ·exact h2.elim⟩⟩⟩
end
section
variable {X:Cx} {iter tg c:Expr} {body:List Stmt} {ti:pp} {g:Tg} {tb:bx} {tc:gV} {pos:Pos}
noncomputable def kR(g:Tg)(tb:bx)(D:kO)(keep:au->Prop):List PV->bV->au->Prop
 |[],σ,S=>keep S/\D.nx σ S
 |x::r,σ,S=>keep S/\match g.put x σ with|some σ'=>tb { D with nx:=kR g tb D keep r,ct:=kR g tb D keep r,bk:=D.nx } σ' S|none=>False
def dI(ti:pp)(g:Tg)(tb:bx):bx:=fun D σ S=>ti σ S (fun src S1=>kR g tb D src.keep src.items σ S1) D.ex
def gN(hp:PassesOwn (model X.prog X.w) X.A X.env X.xe)(hc:X.calm=true)(hi:rP X tg iter ti)(hg:qx X tg g)(hb:ik X body tb)(hs:∀x,foldedSetIterable iter X.env x=pure x:=by intro _;rfl):lK X (.For tg iter body [] pos) (dI ti g tb):=
 ⟨cp (tt hp hc hi.ok hg.ok hb.ok hs) fun D σ H ⟨σ3,S,D3,rσ,rS,h,xo,n,r,bk,ct⟩=>⟨σ3,S,_,D3.ex,rσ,rS,h,xo,fun src S1 J H1 h1 sim yT g1=>by
  refine⟨fun i m σ' H'=>i+m=src.items.length/\∃σ4 S',yL X.K H' σ' σ4/\yH X.K H' S'/\Grow X.K H1 H'/\kR g tb D3 src.keep (src.items.drop i) σ4 S',⟨src.items.length,Im _,σ3,S1,rσ.mono g1,yT,.refl,by simpa using h1⟩,?_⟩
  rintro i m σ' H' ⟨hm,σ4,S',B8,Ar,g',hw⟩
  cases hd:src.items.drop i with
  |nil=>
   rw[hd]at hw
   have hi:i=src.items.length:=by
    have:=Gy List.length hd
    rw[GU,G4]at this
    omega
   exact .inl ⟨(sim i S' H' g' Ar hw.1).2 hi,n _ S' _ H' hw.2 B8 Ar (g1.trans g')⟩
  |cons x rest=>
   rw[hd]at hw
   have hx:src.items[i]?=some x:=by
    have:=Gy (fun l=>l[0]?) hd
    simpa using this
   have hrest:src.items.drop (i+1)=rest:=by
    have:=Gy List.tail hd
    simpa [List.tail_drop]using this
   have hlt:i < src.items.length:=by
    by_cases z:i < src.items.length
    ·exact z
    ·rw[Hh (by omega)]at hx;cases hx
   obtain⟨go,yl⟩:=(sim i S' H' g' Ar hw.1).1 x hx
   refine .inr ⟨go,fun σ5 H5=>∃σ6 S6,yL X.K H5 σ5 σ6/\yH X.K H5 S6/\Grow X.K H1 H5/\kR g tb D3 src.keep rest σ6 S6,?_,fun v H5 hv=>?_⟩
   ·rintro σ5 H5 ⟨σ6,S6,q1,q2,q3,q4⟩
    exact⟨m - 1,by omega,by omega,σ6,S6,q1,q2,q3,by rw[hrest];exact q4⟩
   ·obtain⟨rv,Ea,g5⟩:=yl v H5 hv
    obtain⟨_,hw⟩:=hw
    split at hw
    ·rename_i σ6 e6
     refine Tg.Bc (own:=0) g rv (B8.mono g5) e6 fun σ7 Du _=>?_
     exact⟨σ6,S',_,Du,Ea,hw,xo.mono (g1.trans (g'.trans g5)),fun σ8 S8 σ9 H9 q1 q2 q3 q4=>⟨σ8,S8,q2,q3,g'.trans (g5.trans q4),q1⟩,r.mono (g1.trans (g'.trans g5)),n.mono (g1.trans (g'.trans g5)),
      fun σ8 S8 σ9 H9 q1 q2 q3 q4=>⟨σ8,S8,q2,q3,g'.trans (g5.trans q4),q1⟩⟩
    ·exact hw.elim⟩⟩
def fj(tc:gV)(tb:bx):bx:=fun D σ S=>∃W:Nat->bV->au->Prop,(∃m,W m σ S)/\∀m σ S,W m σ S->
 tc σ S (fun b S1=>if b=true then ∃N:bV->au->Prop,(∀σ' S',N σ' S'->∃m',m' < m/\W m' σ' S')/\tb { D with nx:=N,ct:=N,bk:=D.nx } σ S1 else D.nx σ S1) D.ex
def fG(hp:PassesOwn (model X.prog X.w) X.A X.env X.xe)(hc:lJ X c tc)(hb:ik X body tb):lK X (.While c body [] pos) (fj tc tb):=
 ⟨cp (nZ hp hc.ok hb.ok) fun D σ H ⟨σ3,S,D3,rσ,rS,⟨W,⟨m0,w0⟩,turn⟩,xo,n,r,bk,ct⟩=>by
  refine⟨fun m σ' H'=>∃σ4 S',yL X.K H' σ' σ4/\yH X.K H' S'/\Grow X.K H H'/\W m σ4 S',⟨m0,σ3,S,rσ,rS,.refl,w0⟩,?_⟩
  rintro m σ' H' ⟨σ4,S',B8,Ar,g',w'⟩
  refine⟨σ4,S',_,D3.ex,B8,Ar,turn m σ4 S' w',xo.mono g',fun b S1 H1 h1 yT g1=>?_⟩
  cases b with
  |true=>
   rw[if_pos rfl]at h1 ⊢
   obtain⟨N,hN,h1⟩:=h1
   refine⟨fun σ5 H5=>∃σ6 S6,yL X.K H5 σ5 σ6/\yH X.K H5 S6/\Grow X.K H H5/\N σ6 S6,?_,?_⟩
   ·rintro σ5 H5 ⟨σ6,S6,q1,q2,q3,q4⟩
    obtain⟨m',hm,w6⟩:=hN σ6 S6 q4
    exact⟨m',hm,σ6,S6,q1,q2,q3,w6⟩
   ·exact⟨σ4,S1,_,B8.mono g1,yT,h1,xo.mono (g'.trans g1),fun σ8 S8 σ9 H9 q1 q2 q3 q4=>⟨σ8,S8,q2,q3,g'.trans (g1.trans q4),q1⟩,r.mono (g'.trans g1),n.mono (g'.trans g1),
     fun σ8 S8 σ9 H9 q1 q2 q3 q4=>⟨σ8,S8,q2,q3,g'.trans (g1.trans q4),q1⟩⟩
  |false=>
   rw[if_neg (by decide)]at h1 ⊢
   exact n _ S1 _ H1 h1 (B8.mono g1) yT (g'.trans g1)⟩
end
noncomputable def fc:ci:=fun _ _ _=>False
def BO.no{X:Cx}{H:Hp}:BO X H fc:=fun _ _ _ _ _ _ _ _ _ _ _ _ _ _ h=>h.elim
section
variable {X:Cx} {elt iter tg c:Expr} {ifs:List Expr} {scope:Scope} {pos:Pos} {ti:pp} {g:Tg} {tc:gV} {te:aT} {fs N:Vs} {own:Nat} {fr:List Nat}
noncomputable def cO(g:Tg)(tc:gV)(te:aT)(σ':bV)(keep:au->Prop)(fin:List PV->au->Prop):List PV->List PV->au->Prop
 |[],ys,S=>keep S/\ys.length<=sizeLine/\fin ys S
 |x::r,ys,S=>keep S/\ys.length<=sizeLine/\match g.put x σ' with
  |some σ2=>tc σ2 S (fun b S3=>if b=true then te σ2 S3 (fun y S4=>cO g tc te σ' keep fin r (ys++[y]) S4) fc else cO g tc te σ' keep fin r ys S3) fc
  |none=>False
def b6:gV:=fun _ S Q _=>Q true S
structure u8 (X:Cx) (ifs:List Expr) (t:gV):Prop where
 ok:PF X ifs (LT X t)
def lT{t t':TT}(h:PF X ifs t)(k:∀σ H Q,t' σ H Q->t σ H Q):PF X ifs t':=fun pins s σ H Q I q=>h pins s σ H Q I (k σ H Q q)
def cb:u8 X [] b6:=⟨lT tW fun σ H Q ⟨σ3,S,Q3,E3,rσ,rS,h,xo,k⟩=>k true S H h rS .refl⟩
def we(h:lJ X c tc):u8 X [c] tc:=⟨tX h.ok⟩
noncomputable def j2(own:Nat)(fr:List Nat)(σ:bV):bV:=List.replicate own none++fr.map fun j=>lk σ j
def rV{K:Vo}{H:Hp}{σ:L2.St}{σ3:bV}(r:yL K H σ σ3)(own:Nat)(fr:List Nat):yL K H (cN own fr σ) (j2 own fr σ3):=by
 refine⟨by unfold cN j2;simp,fun i p e=>?_⟩
 unfold j2 at e
 unfold cN
 by_cases hi:i < own
 ·rw[GB (by simpa using hi),G2,if_pos hi]at e
  cases e
 ·rw[GN (by simpa using hi),Gp,F4]at e ⊢
  cases hj:fr[i - own]? with
  |none=>rw[hj]at e;cases e
  |some j=>
   rw[hj]at e
   simp only[Option.map_some,Option.some.injEq]at e ⊢
   obtain⟨v,hv,rv⟩:=r.at' j p (oP e)
   exact⟨v,by rw[hv];rfl,rv⟩
def aY(ti:pp)(g:Tg)(tc:gV)(te:aT)(own:Nat)(fr:List Nat):aT:=fun σ S Q E=>ti σ S (fun src S1=>cO g tc te (j2 own fr σ) src.keep (fun ys S2=>∀p,S2 p=none->Q (.ref p) (aw S2 p (.lst ys))) src.items [] S1) E
def jy{σ:L2.St}{H:Hp}{Q:VK}(Cf:g.under own=true)(B0:Bk):LE X (aY ti g tc te own fr) σ H Q->oB (LI X ti) (g.g2 X.K) (fun σ H Q=>∃σ3 S Q3,yL X.K H σ σ3/\yH X.K H S/\tc σ3 S Q3 fc/\∀b S' H',Q3 b S'->yH X.K H' S'->Grow X.K H H'->Q b H')
  (fun σ H Q=>∃σ3 S Q3,yL X.K H σ σ3/\yH X.K H S/\te σ3 S Q3 fc/\BP X.K H Q3 Q) own fr σ H Q:=fun⟨σ3,S,Q3,E3,rσ,rS,h,xo,k⟩=>by
 refine⟨σ3,S,_,E3,rσ,rS,h,xo,fun src S1 J H1 h1 sim yT g1=>?_⟩
 refine⟨fun i m ys H'=>i+m=src.items.length/\∃zs S',Reps X.K H' ys zs/\yH X.K H' S'/\Grow X.K H1 H'/\cO g tc te (j2 own fr σ3) src.keep (fun ys S2=>∀p,S2 p=none->Q3 (.ref p) (aw S2 p (.lst ys))) (src.items.drop i) zs S',⟨src.items.length,Im _,[],S1,.nil,yT,.refl,by simpa using h1⟩,?_⟩
 rintro i m ys H' ⟨hm,zs,S',rz,Ar,g',hw⟩
 cases hd:src.items.drop i with
 |nil=>
  rw[hd]at hw
  have hi:i=src.items.length:=by
   have:=Gy List.length hd
   rw[GU,G4]at this
   omega
  refine .inl ⟨(sim i S' H' g' Ar hw.1).2 hi,by rw[rz.length];exact hw.2.1,fun D hD=>?_⟩
  exact k _ _ _ _ (hw.2.2 D (Ar.free hD)) (.ref D) (Ar.new hD ⟨_,aA,rz.mono (.new hD)⟩) (g1.trans (g'.trans (.new hD)))
 |cons x rest=>
  rw[hd]at hw
  have hx:src.items[i]?=some x:=by
   have:=Gy (fun l=>l[0]?) hd
   simpa using this
  have hrest:src.items.drop (i+1)=rest:=by
   have:=Gy List.tail hd
   simpa [List.tail_drop]using this
  have hlt:i < src.items.length:=by
   by_cases z:i < src.items.length
   ·exact z
   ·rw[Hh (by omega)]at hx;cases hx
  obtain⟨go,yl⟩:=(sim i S' H' g' Ar hw.1).1 x hx
  refine .inr ⟨go,by rw[rz.length];exact hw.2.1,fun ys' H5=>∃zs' S6,Reps X.K H5 ys' zs'/\yH X.K H5 S6/\Grow X.K H1 H5/\cO g tc te (j2 own fr σ3) src.keep (fun ys S2=>∀p,S2 p=none->Q3 (.ref p) (aw S2 p (.lst ys))) rest zs' S6,?_,fun v H5 hv=>?_⟩
  ·rintro ys' H5 ⟨zs',S6,q1,q2,q3,q4⟩
   exact⟨m - 1,by omega,by omega,zs',S6,q1,q2,q3,by rw[hrest];exact q4⟩
  ·obtain⟨rv,Ea,g5⟩:=yl v H5 hv
   obtain⟨_,_,hw⟩:=hw
   split at hw
   ·rename_i σ6 e6
    refine Tg.Bc (own:=own) g rv ((rV rσ own fr).mono (g1.trans (g'.trans g5))) e6 fun σ7 Du d7=>⟨d7 Cf,?_⟩
    refine⟨σ6,S',_,Du,Ea,hw,fun b S8 H8 h8 EF g8=>?_⟩
    cases b with
    |true=>
     rw[if_pos rfl]at h8 ⊢
     exact⟨σ6,S8,_,Du.mono g8,EF,h8,fun y S9 y' H9 h9 ry Fk g9=>⟨zs++[y],S9,(rz.mono (g5.trans (g8.trans g9))).append (.cons ry .nil),Fk,g'.trans (g5.trans (g8.trans g9)),h9⟩⟩
    |false=>
     rw[if_neg (by decide)]at h8 ⊢
     exact⟨zs,S8,rz.mono (g5.trans g8),EF,g'.trans (g5.trans g8),h8⟩
   ·exact hw.elim
def uh(fs:Vs)(own:Nat)(fr:List Nat)(N:Vs)(Cf:g.under own=true)(hc:X.calm=true)(hclos:closureFor scope X.env=pure (bO X.env fs))(hcell:∀y∈scope.names,y.2 ≠ .cell)(hkind:scope.kind = .function)
  (hnames:∀x∈scope.names,x.2 = .local->scope.names.lookup x.1=some .local) (hcl:bI X.env fs) (hhas:jS (relabel scope X.env).names (bO X.env fs)=true)
  (hlen:N.length=own+fr.length) (hN:(N.drop own).map some=fr.map fun j=>X.N[j]?) (hF:zj X.env scope (bO X.env fs) (N.drop own))
  (hi:rP X tg iter ti) (hg:∀B,qx (X.Aa N scope fs B) tg g) (hf:∀B,u8 (X.Aa N scope fs B) ifs tc) (he:∀B,bj (X.Aa N scope fs B) elt te)
  (hs:∀x,foldedSetIterable iter X.env x=pure x:=by intro _;rfl):bj X (.ListComp elt [⟨tg,iter,ifs,0⟩] scope pos) (aY ti g tc te own fr):=
 ⟨aS (rh fs own fr N hc hclos hcell hkind hnames hcl hhas hlen hN hF hi.ok (fun B=>(hg B).ok)
  (fun B=>lT (hf B).ok fun σ H Q ⟨σ3,S,Q3,rσ,rS,h,k⟩=>⟨σ3,S,Q3,fc,rσ,rS,h,.no,k⟩) (fun B=>aS (he B).ok fun σ H Q ⟨σ3,S,Q3,rσ,rS,h,k⟩=>⟨σ3,S,Q3,fc,rσ,rS,h,.no,k⟩) hs) fun _ _ _=>jy Cf ⟨0,X.s₀,X.H₀,[],[]⟩⟩
def uk(fs:Vs)(own:Nat)(fr:List Nat)(N:Vs){i:Nat}{y:Str}{py spos:Pos}(hX:X.N.Nodup)(hix:X.N[i]?=some y)(hy:X.env.scope.names.lookup y=some .local)
  (hsw:swapsWith (.ListComp elt [⟨tg,iter,ifs,0⟩] scope pos) (some (.Name y py)) spos.line X.env=pure true)
  (Cf:g.under own=true) (hc:X.calm=true) (hclos:closureFor scope X.env=pure (bO X.env fs)) (hcell:∀y∈scope.names,y.2 ≠ .cell) (hkind:scope.kind = .function)
  (hnames:∀x∈scope.names,x.2 = .local->scope.names.lookup x.1=some .local) (hcl:bI X.env fs) (hhas:jS (relabel scope X.env).names (bO X.env fs)=true)
  (hlen:N.length=own+fr.length) (hN:(N.drop own).map some=fr.map fun j=>X.N[j]?) (hF:zj X.env scope (bO X.env fs) (N.drop own))
  (hi:rP X tg iter ti) (hg:∀B,qx (X.Aa N scope fs B) tg g) (hf:∀B,u8 (X.Aa N scope fs B) ifs tc) (he:∀B,bj (X.Aa N scope fs B) elt te)
  (hs:∀x,foldedSetIterable iter X.env x=pure x:=by intro _;rfl):lK X (.Assign [.Name y py] (.ListComp elt [⟨tg,iter,ifs,0⟩] scope pos) spos) (az i (aY ti g tc te own fr)):=
 ⟨cp (rj fs own fr N hX hix hy hsw hc hclos hcell hkind hnames hcl hhas hlen hN hF hi.ok (fun B=>(hg B).ok)
  (fun B=>lT (hf B).ok fun σ H Q ⟨σ3,S,Q3,rσ,rS,h,k⟩=>⟨σ3,S,Q3,fc,rσ,rS,h,.no,k⟩) (fun B=>aS (he B).ok fun σ H Q ⟨σ3,S,Q3,rσ,rS,h,k⟩=>⟨σ3,S,Q3,fc,rσ,rS,h,.no,k⟩) hs)
  fun D σ H ⟨σ3,S,D3,rσ,rS,h,xo,n,r,bk,ct⟩=>jy Cf ⟨0,X.s₀,X.H₀,[],[]⟩ ⟨σ3,S,_,D3.ex,rσ,rS,h,xo,fun p S1 v H1 h1 rv yT g1=>n _ S1 _ H1 h1 ((rσ.mono g1).set rv i) yT g1⟩⟩
end
abbrev aD:=List PV->au->bY->ci->Prop
noncomputable def wf(K:Vo)(n:Nat)(sp:aD):Sp:=fun vs H Q _=>vs.length=n/\∃ps S Q3 E3,Reps K H vs ps/\yH K H S/\sp ps S Q3 E3/\BP K H Q3 Q
structure CI (P:Program) (w:World) (K:Vo) (mg:Vr) (base:Heap) (k:Nat) (f:Addr) (fd:FuncData) (ps:Vs) (sp:aD):Prop where
 ok:jJ P w K mg base sx k f fd ps (wf K ps.length sp)
section
variable {X:Cx} {e o:Expr} {es:List Expr} {te to:aT} {ts:List aT} {x:Str} {p pos apos cpos:Pos} {k:Nat} {f:Addr} {fd:FuncData} {ps:Vs} {sp:aD}
def ae(sp:aD)(ts:List aT):aT:=fun σ S Q E=>bZ ts σ S (fun ps S1=>sp ps S1 Q E) E
def ul(F:CI X.prog X.w X.K X.mg X.base k f fd ps sp)(hr:Room k X.A)(hg:Gl X x)(hm:X.mg x=some (.ref f))(hk:PySem.W.keepIn X.K (.ref f)=true)(hb:Binds X.K fd ps [])(he:starEach (e::es) X.env=(false,eval e X.env)::starEach es X.env)(ha:jq X (e::es) ts)
  (hl:ts.length=ps.length:=by rfl) (hdb:(x == ("__debug__":Str))=false:=by decide) (hpl:(backTo pos (starEach es X.env)).any (·.1)=false:=by rfl):bj X (.Call (.Name x p) (e::es) [] pos) (ae sp ts):=
 ⟨aS (qR F.ok hr hg hm hk hb .nil vQ ha.ok hdb he hpl) fun σ H Q ⟨σ3,S,Q3,E3,rσ,rS,h,xo,k⟩=>cm rσ rS h xo fun ps' S' vs H' hl' q rv Ar g=>by
  rw[Hy]
  exact⟨by rw[rv.length,hl',hl],ps',S',Q3,E3,rv,Ar,q,k.mono g⟩⟩
end
noncomputable def ay(n:Nat)(args:List PV):bV:=args.map some++List.replicate (n - args.length) none
def aZ(n:Nat)(t:bx):aD:=fun args S Q _=>t { nx:=fun _ S'=>Q .non S',rt:=Q,ex:=fc } (ay n args) S
def nv{K:Vo}{H:Hp}{N:Vs}{vs:List V}{ps:List PV}(r:Reps K H vs ps):yL K H (L2.dO N vs) (ay N.length ps):=by
 refine⟨by unfold L2.dO ay;simp[r.length],fun i p e=>?_⟩
 unfold ay at e
 unfold L2.dO
 by_cases hi:i < ps.length
 ·rw[GB (by simpa using hi),F4]at e
  cases hp:ps[i]? with
  |none=>rw[hp]at e;cases e
  |some q=>
   rw[hp]at e
   cases e
   obtain⟨v,hv,rv⟩:=r.get hp
   rw[GB (by rw[FZ,r.length];exact hi),F4,hv]
   exact⟨v,rfl,rv⟩
 ·rw[GN (by simpa using hi),G2]at e
  split at e
  ·cases e
  ·cases e
section
variable {P:Program} {w:World} {K:Vo} {mg:Vr} {base:Heap}
noncomputable abbrev xP(P:Program)(w:World)(K:Vo)(mg:Vr)(base:Heap)(N:Vs)(qual:Str)(st:Stmt)(f:Addr)(cdv:Value)(A:Around)(outer:List Env)(s:Shared)(H:Hp)(E:XK):Cx:=(ly sx P w K mg base N qual (aH st) f cdv A outer s H E).C5
def yf{x qual:Str}{st:Stmt}{f:Addr}{fd:FuncData}{N ps:Vs}{k:Nat}{t:bx}(F:Co K x qual st f fd)(S:eM N ps (aH st))
  (hbody:∀(cdv:Value) (A:Around) (outer:List Env) (s:Shared) (H:Hp) (E:XK),Room k (A.deeper (PyProof.Rows.envOfC qual (aH st) s.heap.objs.size f cdv))->ik (xP P w K mg base N qual st f cdv A outer s H E) (bA st) t) :
  CI P w K mg base (k+1) f fd ps (aZ N.length t):=
 ⟨F.ok S (fun vs H Q E h=>h.1) fun cdv A outer s H vs Q E hr ⟨hl,ps',S',Q3,E3,rv,rS,q,kk⟩=>⟨_,(hbody cdv A outer s H E hr).ok,ay N.length ps',S',_,nv rv,rS,q,.no,fun σ3 S2 σ2 H2 h2 _ AW g2=>kk _ S2 _ H2 h2 .non AW g2,kk,fun _ _ _ _ h2=>h2.elim,fun _ _ _ _ h2=>h2.elim⟩⟩
end
section
variable {X:Cx} {o e f:Expr} {to te tf:aT} {pos apos cpos:Pos}
noncomputable def gr:List (aT×aT)->bV->au->(List (PV×PV)->au->Prop)->ci->Prop
 |[],_,S,Q,_=>Q [] S
 |(tk,tv)::r,σ,S,Q,E=>tk σ S (fun x S1=>tv σ S1 (fun y S2=>gr r σ S2 (fun ps S3=>Q ((x,y)::ps) S3) E) E) E
noncomputable def kS:List (PV×PV)->Option (List (bt×PV))
 |[]=>some []
 |(x,y)::r=>match lS x,kS r with|some k,some l=>some ((k,y)::l)|_,_=>none
noncomputable def j3(kvs more:List (bt×PV)):List (bt×PV):=more.foldl (fun acc kv=>jZ acc kv.1 kv.2) kvs
structure wO (X:Cx) (pos:Pos) (keys:List (Option Expr)) (values:List Expr) (AR:List (aT×aT)):Prop where
 ok:vO X pos keys values (AR.map fun t=>(LE X t.1,LE X t.2))
def um:wO X pos [] [] []:=⟨q_⟩
def j4{k v:Expr}{ks:List (Option Expr)}{vs:List Expr}{tk tv:aT}{AR:List (aT×aT)}(hk:bj X k tk)(hv:bj X v tv)(hr:wO X pos ks vs AR):wO X pos (some k::ks) (v::vs) ((tk,tv)::AR):=⟨oy hk.ok hv.ok hr.ok⟩
inductive jz (K:Vo) (H:Hp):List (V×V)->List (PV×PV)->Prop
 |nil:jz K H [] []
 |cons {a b:V} {p q:PV} {vs:List (V×V)} {ps:List (PV×PV)}:Rep K H a p->Rep K H b q->jz K H vs ps->jz K H ((a,b)::vs) ((p,q)::ps)
theorem ir:∀{AR:List (aT×aT)} {σ:L2.St} {H:Hp} {Q:List (V×V)->Hp->Prop} {σ3:bV} {S:au} {Q3:List (PV×PV)->au->Prop} {E3:ci},yL X.K H σ σ3->yH X.K H S->gr AR σ3 S Q3 E3->BO X H E3->
  (∀ps S' vs H',ps.length=AR.length->Q3 ps S'->jz X.K H' vs ps->yH X.K H' S'->Grow X.K H H'->Q vs H')->jP (AR.map fun t=>(LE X t.1,LE X t.2)) σ H Q
 |[],σ,H,Q,σ3,S,Q3,E3,rσ,rS,h,xo,k=>k [] S [] H rfl h .nil rS .refl
 |(tk,tv)::ts,σ,H,Q,σ3,S,Q3,E3,rσ,rS,h,xo,k=>
  ⟨σ3,S,_,E3,rσ,rS,h,xo,fun p S1 v H1 h1 rv yT g1=>⟨σ3,S1,_,E3,rσ.mono g1,yT,h1,xo.mono g1,fun p2 S2 v2 H2 h2 Fl AW g2=>ir (rσ.mono (g1.trans g2)) AW h2 (xo.mono (g1.trans g2)) fun ps S3 vs H3 hl h3 DX CH g3=>
   k ((p,p2)::ps) S3 ((v,v2)::vs) H3 (by rw[F7,F7,hl]) h3 (.cons (rv.mono (g2.trans g3)) (Fl.mono g3) DX) CH (g1.trans (g2.trans g3))⟩⟩
theorem jA{K:Vo}{H:Hp}:∀{vs:List (V×V)} {ps:List (PV×PV)} {l:List (bt×PV)},jz K H vs ps->kS ps=some l->∃kvs:List (bt×V),vs=kvs.map (fun kv=>(kV kv.1,kv.2))/\yU K H kvs l
 |_,_,_,.nil,h=>by cases h;exact⟨[],rfl,.nil⟩
 |_,_,l,.cons a b r,h=>by
  unfold kS at h
  split at h
  ·rename_i k l' ek el
   cases h
   obtain⟨kvs,e,q⟩:=jA r el
   refine⟨(k,_)::kvs,?_,.cons b q⟩
   rw[Gd,<-e,cW a ek]
  ·cases h
def yU.merge{K:Vo}{H:Hp}{more:List (bt×V)}{m3:List (bt×PV)}(r:yU K H more m3):∀{kvs:List (bt×V)} {k3:List (bt×PV)},yU K H kvs k3->yU K H (gc kvs more) (j3 k3 m3):=by
 induction r with
 |nil=>intro kvs k3 q;exact q
 |cons a r ih=>intro kvs k3 q;exact ih (q.put a)
def kT(AR:List (aT×aT)):aT:=fun σ S Q E=>∀p,S p=none->gr AR σ (aw S p (.dct [])) (fun ps S2=>S2 p=some (.dct [])/\match kS ps with|some kvs=>Q (.ref p) (aw S2 p (.dct (j3 [] kvs)))|none=>False) E
def uo{keys:List (Option Expr)}{values:List Expr}{AR:List (aT×aT)}(h:wO X pos keys values AR)(hall:keys.all (·.isSome)=true:=by rfl)(hl:keys.length=values.length:=by rfl)(h0:keys≠[]:=by exact List.cons_ne_nil _ _)(DN:keys.length<=15:=by decide)
  (ht:AR.length<=15:=by exact Ip rfl):bj X (.Dict keys values pos) (kT AR):=
 ⟨aS (rd h.ok hall hl h0 DN) fun σ H Q ⟨σ3,S,Q3,E3,rσ,rS,hq,xo,k⟩=>fun p hp=>by
  have g0:Grow X.K H (upd H p (.dK [])):=.new hp
  refine ir (rσ.mono g0) (rS.new hp (o:=.dct []) ⟨[],aA,.nil⟩) (hq p (rS.free hp)) (xo.mono g0) fun ps S' vs H' hl' q rv Ar g=>?_
  obtain⟨e,q⟩:=q
  obtain⟨kv,hv,rk⟩:=Ar _ _ e
  cases rk
  refine⟨hv,?_⟩
  split at q
  ·rename_i kvs ek
   obtain⟨l,el,rl⟩:=jA rv ek
   refine⟨l,el,?_,k _ _ _ _ q (.ref p) (Ar.put hv trivial ⟨_,aA,(yU.merge rl .nil).mono (.mut hv trivial)⟩) (g0.trans (g.trans (.mut hv trivial)))⟩
   have z1:∀{vs:List (V×V)} {ps:List (PV×PV)},jz X.K H' vs ps->vs.length=ps.length:=by
    intro vs ps r
    induction r with
    |nil=>rfl
    |cons _ _ _ ih=>rw[F7,F7,ih]
   have z2:=Gy List.length el
   rw[FZ,z1 rv,hl']at z2
   omega
  ·exact q.elim⟩
def kU(te:aT):aT:=fun σ S Q E=>te σ S (fun x S1=>match x with
 | .ref a=>(match S1 a with|some (.lst xs)=>∀p,S1 p=none->Q (.ref p) (aw S1 p (.lst xs.reverse))|_=>False)
 |_=>False) E
def uq{p1 p2 q1 q2:Pos}(hs:starEach [e] X.env=[(false,eval e X.env)])(hc:X.calm=true)(he:bj X e te)(DW:Gl X "list")(hm1:X.mg "list" = none)(C_:Gl X "reversed")(hm2:X.mg "reversed" = none):bj X (.Call (.Name "list" p1) [.Call (.Name "reversed" p2) [e] [] q2] [] q1) (kU te):=
 ⟨aS (lF hc he.ok DW hm1 C_ hm2 hs rfl) fun σ H Q ⟨σ3,S,Q3,E3,rσ,rS,h,xo,k⟩=>⟨σ3,S,_,E3,rσ,rS,h,xo,fun x S1 v H1 h1 rx yT g1=>by
  split at h1
  ·cases rx
   split at h1
   ·rename_i ea
    obtain⟨vs,hv,rs⟩:=yT _ _ ea
    exact⟨_,_,rfl,SqL.of hv,fun q hq=>k _ _ _ _ (h1 q (yT.free hq)) (.ref q) (yT.new hq ⟨_,aA,rs.reverse.mono (.new hq)⟩) (g1.trans (.new hq))⟩
   ·exact h1.elim
  ·exact h1.elim⟩⟩
end
def bu:R3:=dS fun i j=>.int (i - j)
def dJ:R3:=e9 (fun _ j=>j≠0) fun i j=>.int (i.fmod j)
def dF:R3:=e9 jr fun i j=>.int (i.fdiv j)
def lU:R3:=e9 tD fun i j=>.int (i ^ j.toNat)
def nR:R3:=dS fun i j=>.bl (decide (i < j))
def nw:R3:=dS fun i j=>.bl (decide (j < i))
def wg:R3:=dS fun i j=>.bl (decide (j<=i))
section
variable {X:Cx}
def cg:gi X (binaryOp .Sub) bu:=ua
def cP:gi X (binaryOp .Mod) dJ:=ub
def fk:gi X (binaryOp .FloorDiv) dF:=rE
def pA:gi X (binaryOp .Pow) lU:=uc
def lV:gi X (compareOp .Lt) nR:=vX
def ny:gi X (compareOp .Gt) nw:=vY
def xQ:gi X (compareOp .GtE) wg:=vZ
end
def sF{A:Around}{k:Nat}(hr:Room k A):A.units+1 < cLine:=by have:=hr.un;omega
def iu{A:Around}{k:Nat}(hr:Room k A):A.units+150 < cLine:=by have:=hr.un;omega
def mw{A:Around}{k:Nat}(hr:Room k A):A.units+160 < cLine:=by have:=hr.un;omega
structure wP (K:Vo) (mg:Vr) (x:Str) (st:Stmt) (ps:Vs) (f:Addr) (fd:FuncData):Prop where
 F:Co K x x st f fd
 b:Binds K fd ps []
 k:PySem.W.keepIn K (.ref f)=true
 m:mg x=some (.ref f)
def CI.zero{P:Program}{w:World}{K:Vo}{mg:Vr}{base:Heap}{k:Nat}{f:Addr}{fd:FuncData}{ps:Vs}{sp:aD}(h:sp=fun _ _ _ _=>False):CI P w K mg base k f fd ps sp:=by
 subst h
 exact⟨⟨fun vs H Q E q=>q.1,fun A outer s H args us vs Q E _ _ _ _ ⟨_,_,_,_,_,_,_,q,_⟩=>q.elim⟩⟩
def xR{K:Vo}{H:Hp}{a:Addr}{ns:Vu}{sp:aD}(hO:re H)(hS:SqL K H a (ns.map V.int))(h:sp [.cl (ns.map PV.int)] (fun _=>none) (fun v _=>v = .bl true) fc):wf K 1 sp [.ref a] H (fun v _=>v = .bl true) fun _ _ _=>False:=by
 have hr:∀l:List Int,Reps K H (l.map V.int) (l.map PV.int):=by
  intro l
  induction l with
  |nil=>exact .nil
  |cons x r ih=>exact .cons (.int x) ih
 refine⟨rfl,[.cl (ns.map PV.int)],fun _=>none,_,fc,.cons (.cl (vs:=ns.map V.int) ?_ (hr ns)) .nil,(fun b o e=>by simp at e),h,fun p S' v H' q rv rS g=>?_⟩
 ·rcases hS with(q|q)|q
  ·rcases hO a with z|⟨o,xs,z⟩
   ·rw[z]at q;cases q
   ·rw[z]at q;cases q
  ·exact .inl q
  ·exact .inr q
 ·subst q
  cases rv
  rfl
end L3
namespace L2
open PySem PySem.Spec PyProof.Rows
end L2
namespace HT
open PySem PySem.Spec PyProof.Rows
end HT
namespace L2
open PySem PySem.Spec PyProof.Rows
end L2
namespace L3
open PySem L2
end L3
namespace L2
open PySem PySem.Spec PyProof.Rows
end L2
namespace L3
open PySem L2
end L3
namespace L2
open PySem PySem.Spec PyProof.Rows PySem.AutoSeq1
end L2
namespace L3
open PySem L2
end L3
namespace C
open PySem L2 L3
def dZ:bx:=(ah (az 3 (aY (bL (b4 (v3 0) (ng (v3 1)) (ng (c3 (.int 63))))) (.n 0) b6 (ar dX [(v3 0),(ai bu (c3 (.int 0)) (v3 0))]) 1 []))
  (ah (az 4 (ai aR (c3 (.int 7919)) (v3 1)))
  (ah (dI (bL (v3 3)) (.n 2) (az 4 (ai dJ (ai aR (ai b5 (v3 4) (c3 (.int 48271))) (ai dJ (v3 2) (c3 (.int 2147483629)))) (c3 (.int 2147483647)))))
  (aE (kT [((c3 (.str "seed")),(v3 4)),((c3 (.str "number")),(c3 (.int 0))),((c3 (.str "left")),(kU (aY (bL (v3 3)) (.n 0) (a_ (ai wg (v3 0) (ai lU (c3 (.int 10)) (c3 (.int 18))))) (v3 0) 1 [])))])))))
def d0:bx:=(ah (fj (lM (a_ (ai (bJ false) (ai aj (v3 0) (c3 (.str "number"))) (c3 (.int 0)))) (a_ (ai nw (ar eS [(ai aj (v3 0) (c3 (.str "left")))]) (c3 (.int 0))))) (i3 (kB "list" nj (ai aj (v3 0) (c3 (.str "left"))) []) (v3 0) (c3 (.str "number"))))
  (ah (az 2 (ai aj (v3 0) (c3 (.str "number"))))
  (ah (bW (a_ (ai nw (v3 2) (c3 (.int 0)))) (ah (i3 (ai dF (v3 2) (v3 1)) (v3 0) (c3 (.str "number")))
  (aE (ai dJ (v3 2) (v3 1)))) aX)
  (ah (az 3 (ai dJ (ai aR (ai b5 (ai aj (v3 0) (c3 (.str "seed"))) (c3 (.int 48271))) (c3 (.int 7919))) (c3 (.int 2147483647))))
  (ah (i3 (ai dJ (ai aR (ai b5 (v3 3) (c3 (.int 40692))) (c3 (.int 104729))) (c3 (.int 2147483399))) (v3 0) (c3 (.str "seed")))
  (ah (az 4 (ai dJ (ai b5 (ai aj (v3 0) (c3 (.str "seed"))) (ai aj (v3 0) (c3 (.str "seed")))) (c3 (.int 2147483563))))
  (aE (ai dJ (ai aR (ai b5 (ai dJ (ai b5 (v3 3) (v3 3)) (c3 (.int 2147483629))) (c3 (.int 2147483563))) (v3 4)) (v3 1)))))))))
def fm:bx:=(ah (nk 2 3 (ar dX [(v3 0),(ai bu (c3 (.int 0)) (v3 0))]) (v3 1))
  (ah (fj (a_ (ai nw (v3 3) (c3 (.int 0)))) (nk 2 3 (v3 3) (ai dJ (v3 2) (v3 3))))
  (aE (aC [(ai dF (v3 0) (v3 2)),(ai dF (v3 1) (v3 2))]))))
def cZ(yF:aD):bx:=(ah (az 2 (c3 (.str "abcdefghijklmnopqrstuvwxyz")))
  (ah (az 3 (dG [(c3 (.str "jars")),(c3 (.str "deed")),(c3 (.str "rest")),(c3 (.str "pay")),(c3 (.str "put")),(c3 (.str "then")),(c3 (.str "either")),(c3 (.str "take")),(c3 (.str "often")),(c3 (.str "use"))]))
  (ah (az 5 (kB "str" ju (c3 (.str "")) [(aY (dH (ae yF [(v3 0),(c3 (.int 6))])) (.n 0) b6 (ai aj (v3 2) (ae yF [(v3 1),(c3 (.int 26))])) 1 [0,2])]))
  (ah (ip 6 7 8 (aC [(ae yF [(v3 0),(ai aR (ar eS [(v3 5)]) (c3 (.int 1)))]),(ae yF [(v3 0),(c3 (.int 26))]),(ai (bJ false) (ae yF [(v3 0),(c3 (.int 2))]) (c3 (.int 0)))]))
  (ah (az 9 (dG []))
  (ah (dI (dH (v3 1)) (.n 4) (ah (az 10 (ai aR (ai aR (b4 (v3 5) o8 (ng (v3 6))) (ai aj (v3 2) (ai dJ (ai aR (v3 7) (v3 4)) (c3 (.int 26))))) (b4 (v3 5) (ng (v3 6)) o8)))
  (ah (bW (oV (a_ (v3 8))) (az 10 (kB "str" ju (c3 (.str "")) [(aY (dH (ai aR (c3 (.int 1)) (ae yF [(v3 0),(c3 (.int 6))]))) (.n 0) b6 (ai aj (v3 2) (ae yF [(v3 1),(c3 (.int 26))])) 1 [0,2])])) aX)
  (ah (fj (lN (a_ (ai (mr false) (v3 10) (v3 3))) (a_ (ai (mr false) (v3 10) (v3 9)))) (az 10 (ai aR (ai aj (v3 2) (ai dJ (ai aR (kB "str" gm (v3 2) [(ai aj (v3 10) (c3 (.int 0)))]) (c3 (.int 1))) (c3 (.int 26)))) (b4 (v3 10) (ng (c3 (.int 1))) o8))))
  (fb (kB "list" bK (v3 9) [(v3 10)]))))))
  (aE (v3 9))))))))
def d4(yF Aj:aD):bx:=(ah (az 1 (ae yF [(v3 0),(c3 (.int 4))]))
  (ah (bW (a_ (ai (bJ false) (v3 1) (c3 (.int 0)))) (aE (aC [(c3 (.int 0)),(c3 (.int 1))])) aX)
  (ah (bW (a_ (ai nR (v3 1) (c3 (.int 3)))) (aE (aC [(ai aR (c3 (.int 1)) (ae yF [(v3 0),(c3 (.int 5))])),(c3 (.int 1))])) aX)
  (aE (ae Aj [(ae yF [(v3 0),(c3 (.int 1000))]),(ai aR (c3 (.int 1)) (ae yF [(v3 0),(c3 (.int 9))]))])))))
def d5(yF zW:aD):bx:=(ah (az 2 (ae yF [(v3 0),(c3 (.int 7))]))
  (ah (bW (a_ (ai (bJ false) (v3 2) (c3 (.int 0)))) (aE (aC [(c3 (.str "rest"))])) aX)
  (ah (bW (lN (a_ (ai nR (v3 2) (c3 (.int 4)))) (a_ (ai (bJ false) (ar eS [(v3 1)]) (c3 (.int 0))))) (aE (aC [(c3 (.str "pay")),(ae zW [(v3 0)])])) aX)
  (ah (az 3 (ai aj (dG [(c3 (.int 1)),(c3 (.int 2)),(ai aR (c3 (.int 1)) (ae yF [(v3 0),(c3 (.int 9))]))]) (ae yF [(v3 0),(c3 (.int 3))])))
  (aE (aC [(c3 (.str "put")),(ai aj (v3 1) (ae yF [(v3 0),(ar eS [(v3 1)])])),(v3 3)]))))))
def d6(yF zy s0:aD):bx:=(ah (az 4 (ae yF [(v3 0),(c3 (.int 12))]))
  (ah (bW (lN (a_ (ai (bJ false) (v3 3) (c3 (.int 0)))) (lN (a_ (ai nR (ai aj (v3 2) (c3 (.int 0))) (c3 (.int 2)))) (a_ (ai nR (v3 4) (c3 (.int 3)))))) (aE (ae zy [(v3 0),(v3 1)])) aX)
  (ah (bW (a_ (ai nR (v3 4) (c3 (.int 5)))) (ah (i3 (ai bu (ai aj (v3 2) (c3 (.int 0))) (c3 (.int 1))) (v3 2) (c3 (.int 0)))
  (aE (aC [(c3 (.str "often")),(ae s0 [(v3 0),(v3 1),(v3 2),(ai bu (v3 3) (c3 (.int 1)))])]))) aX)
  (ah (i3 (ai bu (ai aj (v3 2) (c3 (.int 0))) (c3 (.int 2))) (v3 2) (c3 (.int 0)))
  (ah (az 5 (ae s0 [(v3 0),(v3 1),(v3 2),(ai bu (v3 3) (c3 (.int 1)))]))
  (ah (az 6 (ae s0 [(v3 0),(v3 1),(v3 2),(ai bu (v3 3) (c3 (.int 1)))]))
  (ah (bW (a_ (ai nR (v3 4) (c3 (.int 8)))) (aE (aC [(c3 (.str "then")),(v3 5),(v3 6)])) aX)
  (ah (bW (lN (a_ (ai (bJ false) (v3 4) (c3 (.int 8)))) (a_ (ai (bJ false) (ar eS [(v3 1)]) (c3 (.int 0))))) (aE (aC [(c3 (.str "either")),(v3 5),(v3 6)])) aX)
  (ah (az 7 (ai aj (dG [(c3 (.int 1)),(c3 (.int 1)),(c3 (.int 2)),(ai aR (c3 (.int 1)) (ae yF [(v3 0),(c3 (.int 9))]))]) (ae yF [(v3 0),(c3 (.int 4))])))
  (aE (aC [(c3 (.str "take")),(ai aj (v3 1) (ae yF [(v3 0),(ar eS [(v3 1)])])),(v3 7),(v3 5),(v3 6)])))))))))))
def bM(s0:aD):bx:=(ah (bW (a_ (ai (bJ false) (ai aj (v3 0) (c3 (.int 0))) (c3 (.str "then")))) (aE (ai b5 (ae s0 [(ai aj (v3 0) (c3 (.int 1)))]) (ae s0 [(ai aj (v3 0) (c3 (.int 2)))]))) aX)
  (ah (bW (lN (a_ (ai (bJ false) (ai aj (v3 0) (c3 (.int 0))) (c3 (.str "either")))) (a_ (ai (bJ false) (ai aj (v3 0) (c3 (.int 0))) (c3 (.str "take"))))) (aE (ai aR (ae s0 [(ai aj (v3 0) (nQ gW (c3 (.int 2))))]) (ae s0 [(ai aj (v3 0) (nQ gW (c3 (.int 1))))]))) aX)
  (aE (c3 (.int 1)))))
def bE(yZ s0:aD):bx:=(ah (bW (a_ (ai (bJ false) (ai aj (v3 0) (c3 (.int 0))) (c3 (.str "often")))) (aE (ai aR (ae yZ [(ai aj (v3 0) (c3 (.int 1)))]) (ae s0 [(ai aj (v3 0) (c3 (.int 1)))]))) aX)
  (ah (bW (a_ (ai (mr false) (ai aj (v3 0) (c3 (.int 0))) (aC [(c3 (.str "then")),(c3 (.str "either")),(c3 (.str "take"))]))) (aE (ai aR (ae s0 [(ai aj (v3 0) (nQ gW (c3 (.int 2))))]) (ae s0 [(ai aj (v3 0) (nQ gW (c3 (.int 1))))]))) aX)
  (aE (c3 (.int 0)))))
def bP(zX yZ Ak zy:aD):bx:=(ah (az 4 (ae zX [(v3 0),(v3 1),(dG [(ai bu (v3 2) (c3 (.int 1)))]),(c3 (.int 5))]))
  (ah (bW (a_ (ai nw (ai aR (ae yZ [(v3 4)]) (ae Ak [(v3 4)])) (v3 3))) (az 4 (aC [(c3 (.str "then")),(aC [(c3 (.str "often")),(ae zy [(v3 0),(v3 1)])]),(ae zy [(v3 0),(v3 1)])])) aX)
  (aE (v3 4))))
def c_(y_ yF AC:aD):bx:=(ah (az 4 (ae y_ [(v3 0),(c3 (.int 8))]))
  (ah (az 5 (ar aL [(b4 (v3 4) o8 (ng (ae yF [(v3 0),(ai aR (v3 1) (c3 (.int 1)))])))]))
  (ah (az 6 (ai aj (dG [(c3 (.int 0)),(c3 (.int 4))]) (ae yF [(v3 0),(c3 (.int 2))])))
  (ah (az 7 (ai aR (c3 (.int 1)) (ae yF [(v3 0),(v3 2)])))
  (ah (az 8 (aY (dH (v3 7)) (.n 0) b6 (aC [(ai aj (v3 6) (ai aR (v3 2) (v3 0))),(ae AC [(v3 1),(v3 3),(v3 5),(ai dF (c3 (.int 24)) (v3 4))])]) 1 [0,6,5,7,3,4]))
  (aE (aC [(v3 5),(ar aL [(v3 8)])])))))))
def iw:bx:=(ah (fj (a_ (ai (bJ true) (v3 1) (c3 (.int 0)))) (ah (az 2 (ai dJ (v3 0) (v3 1)))
  (ah (az 0 (v3 1))
  (az 1 (v3 2)))))
  (aE (ar ni [(v3 0)])))
def fo(BX:aD):bx:=(ah (az 2 (ae BX [(v3 0),(v3 1)]))
  (ah (bW (a_ (ai nR (v3 1) (c3 (.int 0)))) (az 2 (nQ gW (v3 2))) aX)
  (aE (aC [(ai dF (v3 0) (v3 2)),(ai dF (v3 1) (v3 2))]))))
def lW(Al:aD):bx:=(aE (ae Al [(ai aR (ai b5 (ai aj (v3 0) (c3 (.int 0))) (ai aj (v3 1) (c3 (.int 1)))) (ai b5 (ai aj (v3 1) (c3 (.int 0))) (ai aj (v3 0) (c3 (.int 1))))),(ai b5 (ai aj (v3 0) (c3 (.int 1))) (ai aj (v3 1) (c3 (.int 1))))]))
def j5(Al:aD):bx:=(aE (ae Al [(ai b5 (ai aj (v3 0) (c3 (.int 0))) (ai aj (v3 1) (c3 (.int 0)))),(ai b5 (ai aj (v3 0) (c3 (.int 1))) (ai aj (v3 1) (c3 (.int 1))))]))
def ix:bx:=(aE (ai aj (v3 0) (ai aR (nQ gW (c3 (.int 2))) (ai aj (v3 1) (c3 (.int 0))))))
def d9:bx:=(aE (ar aL [(aY (bL (v3 0)) (.n 0) b6 (oX (a_ (ai (bJ false) (v3 0) (v3 1))) (v3 2) (c3 (.int 0))) 1 [1,2])]))
def j6:bx:=(aE (ar aL [(aY (nu (v3 0) (v3 1)) (.tp (.cons (.n 0) (.cons (.n 1) .nil))) b6 (ai aR (v3 0) (v3 1)) 2 [])]))
def de:bx:=(aE (ar aL [(aY (bL (v3 0)) (.n 0) b6 (ai b5 (v3 0) (v3 1)) 1 [1])]))
def j7(Be Cg:aD):bx:=(ah (az 2 (aY (nu (ai aj (v3 0) (c3 (.int 1))) (ai aj (v3 0) (c3 (.int 2)))) (.tp (.cons (.n 0) (.cons (.n 1) .nil))) b6 (ai aR (v3 1) (ar dX [(c3 (.int 0)),(ai b5 (nQ gW (v3 0)) (ai bu (v3 2) (c3 (.int 1))))])) 2 [1]))
  (aE (aC [(ae Cg [(ai aj (v3 0) (c3 (.int 0))),(aC [(v3 1),(c3 (.int 1))])]),(ae Be [(ai aj (v3 0) (c3 (.int 1))),(v3 1)]),(ar aL [(v3 2)])])))
def b7(zz:aD):bx:=(aE (aC [(aC [(c3 (.int 0)),(c3 (.int 1))]),(ae zz [(v3 0),(ai aj (v3 1) (c3 (.int 1))),(nQ gW (ai aj (v3 1) (c3 (.int 2))))]),(ae zz [(v3 0),(ai aj (v3 1) (c3 (.int 1))),(ai aj (v3 1) (c3 (.int 2)))])]))
def d_(Aj:aD):bx:=(aE (ae Aj [(ai aR (ai b5 (ai aj (v3 0) (c3 (.int 0))) (ai aj (v3 1) (c3 (.int 1)))) (ai b5 (ai aj (v3 1) (c3 (.int 0))) (ai aj (v3 0) (c3 (.int 1))))),(ai b5 (ai aj (v3 0) (c3 (.int 1))) (ai aj (v3 1) (c3 (.int 1))))]))
end C
namespace Zu
open PySem Zt
open Sem (wp)
def nn{a b:Nat}(h:a≠b):@Ne Addr a b:=h
abbrev bv(h:Heap)(T:Nat)(a b c:Value):Prop:=h.get? T=some { cls:=.type "tuple",data:=.seq #[a,b,c] }
section
variable {kd kc:Bool} {prog:Program} {w:World} {A:Around} {E:Vq} {s:Shared}
def j8{T:Addr}{a b c x:Value}{k:Nat}{Q:Unit->Shared->Prop}(hT:bv s.heap T a b c)
  (h:∀h',h'.get? T=some { cls:=.type "tuple",data:=.seq ((#[a,b,c]:Vw).setIfInBounds k x) }->Heap.SameBut T s.heap h'->Q () { s with heap:=h' }) :
  wpAny (model prog w) A (updateSeq T (·.setIfInBounds k x)) Q E s:=by
 refine wpAny_updateSeq hT rfl (h _ ?_ (IM ..))
 rw[Hz _ hT rfl]
 simp[Obj.mapSeq]
variable {n l1 l2 l3:Nat} {i:Nat} {xs ys zs:Vw} {x y z a b c:Value}
def jU{Q:Vq}(d1:l1 < n)(d2:l2 < n)(d3:l3 < n)(gz:IsZip s.heap (n+5) (n+3) (n+4) .none)(gI:bv s.heap (n+3) (.ref n) (.ref (n+1)) (.ref (n+2)))(gO:bv s.heap (n+4) a b c)
  (g1:Si kd s.heap n l1 i) (g2:Si kc s.heap (n+1) l2 i) (g3:Si kc s.heap (n+2) l3 i) (t1:Sq kd s.heap l1 xs) (t2:Sq kc s.heap l2 ys) (t3:Sq kc s.heap l3 zs) (hx:xs[i]?=some x) (hy:ys[i]?=some y) (hz:zs[i]?=some z)
  (k:∀g,IsZip g (n+5) (n+3) (n+4) (rawInt s.heap.objs.size)->bv g (n+4) x y z->Si kd g n l1 (i+1)->Si kc g (n+1) l2 (i+1)->Si kc g (n+2) l3 (i+1)->bv g s.heap.objs.size x y z->
   (∀c o,c≠n+5->c≠n+4->c≠n->c≠n+1->c≠n+2->s.heap.get? c=some o->g.get? c=some o)->Q (.ref s.heap.objs.size) { s with heap:=g }) :
  wpAny (model prog w) A (Builtin.«zip.__next__» ⟨[.ref (n+5)],[]⟩) (fun fin s'=>∃v,fin = .done (.ret v)/\Q v s') E s:=by
 show wpAny _ _ (field (.ref (n+5)) 2 >>= _) _ _ _;refine FO (Ge gz rfl (x:=.bool false) rfl ?_)
 show wpAny _ _ (field (.ref (n+5)) 3 >>= _) _ _ _;refine FO (Ge gz rfl (x:=.ref (n+3)) rfl (FO (Gj gI rfl ?_)))
 show wpAny _ _ (Builtin.SmallTypes.ownedTupleIsFree (.ref (n+5)) >>= _) _ _ _;refine FO ?_;unfold Builtin.SmallTypes.ownedTupleIsFree
 refine FO (Ge gz rfl (x:=.none) rfl (FW ?_));simp only[HH]
 refine FO (HD (FO (Ge gz rfl (x:=.ref (n+4)) rfl (FO (Gk gz (by simp) fun h₁ z1 q1=>?_)))))
 replace z1:IsZip h₁ (n+5) (n+3) (n+4) .ellipsis:=z1
 refine FO ?_;simp only[List.zipIdx_cons,List.zipIdx_nil,IF,List.forIn_nil]
 refine FO (FO (Hs ?_));show wpAny _ _ (Builtin.SmallTypes.nextOf (.ref n) >>= _) _ _ _
 refine FO (u4 (g1.extBut q1.extBut (nn (by omega))) (t1.extBut q1.extBut (nn (by omega))) hx fun h₂ n1 q2=>FW ?_)
 have o2:bv h₂ (n+4) a b c:=q2.extBut _ _ (nn (by omega)) (q1.extBut _ _ (nn (by omega)) gO)
 refine FO (Gj o2 rfl (FO (j8 o2 fun h₃ o3 q3=>?_)))
 replace o3:bv h₃ (n+4) x b c:=o3
 refine FO (HY (FW ?_));refine FO (FO (Hs ?_));show wpAny _ _ (Builtin.SmallTypes.nextOf (.ref (n+1)) >>= _) _ _ _
 refine FO (u4 (((g2.extBut q1.extBut (nn (by omega))).extBut q2.extBut (nn (by omega))).extBut q3.extBut (nn (by omega))) (((t2.extBut q1.extBut (nn (by omega))).extBut q2.extBut (nn (by omega))).extBut q3.extBut (nn (by omega))) hy fun h₄ n2 q4=>FW ?_)
 have o4:bv h₄ (n+4) x b c:=q4.extBut _ _ (nn (by omega)) o3
 refine FO (Gj o4 rfl (FO (j8 o4 fun h₅ o5 q5=>?_)))
 replace o5:bv h₅ (n+4) x y c:=o5
 refine FO (HY (FW ?_));refine FO (FO (Hs ?_));show wpAny _ _ (Builtin.SmallTypes.nextOf (.ref (n+2)) >>= _) _ _ _
 refine FO (u4 (((((g3.extBut q1.extBut (nn (by omega))).extBut q2.extBut (nn (by omega))).extBut q3.extBut (nn (by omega))).extBut q4.extBut (nn (by omega))).extBut q5.extBut (nn (by omega))) (((((t3.extBut q1.extBut (nn (by omega))).extBut q2.extBut (nn (by omega))).extBut q3.extBut (nn (by omega))).extBut q4.extBut (nn (by omega))).extBut q5.extBut (nn (by omega))) hz fun h₆ n3 q6=>FW ?_)
 have o6:bv h₆ (n+4) x y c:=q6.extBut _ _ (nn (by omega)) o5
 refine FO (Gj o6 rfl (FO (j8 o6 fun h₇ o7 q7=>?_)))
 replace o7:bv h₇ (n+4) x y z:=o7
 refine FO (HY (FW (FW ?_)));refine FO (Gj o7 rfl (FO (wpAny_newTuple ?_)))
 have sz:h₇.objs.size=s.heap.objs.size:=by rw[q7.1,q6.1,q5.1,q4.1,q3.1,q2.1,q1.1]
 have kk:∀c o,c≠n+5->c≠n+4->c≠n->c≠n+1->c≠n+2->s.heap.get? c=some o->h₇.get? c=some o:=fun c o c1 c2 c3 c4 c5 e=>q7.extBut _ _ c2 (q6.extBut _ _ c5 (q5.extBut _ _ c2 (q4.extBut _ _ c4 (q3.extBut _ _ c2 (q2.extBut _ _ c3 (q1.extBut _ _ c1 e))))))
 have z7:IsZip h₇ (n+5) (n+3) (n+4) .ellipsis:=q7.extBut _ _ (nn (by omega)) (q6.extBut _ _ (nn (by omega)) (q5.extBut _ _ (nn (by omega)) (q4.extBut _ _ (nn (by omega)) (q3.extBut _ _ (nn (by omega)) (q2.extBut _ _ (nn (by omega)) z1)))))
 have m1:Si kd h₇ n l1 (i+1):=((((n1.extBut q3.extBut (nn (by omega))).extBut q4.extBut (nn (by omega))).extBut q5.extBut (nn (by omega))).extBut q6.extBut (nn (by omega))).extBut q7.extBut (nn (by omega))
 have m2:Si kc h₇ (n+1) l2 (i+1):=((n2.extBut q5.extBut (nn (by omega))).extBut q6.extBut (nn (by omega))).extBut q7.extBut (nn (by omega))
 have m3:Si kc h₇ (n+2) l3 (i+1):=n3.extBut q7.extBut (nn (by omega))
 have zl:n+5 < h₇.objs.size:=FU z7
 show wpAny _ _ (Builtin.SmallTypes.ownedTupleHandOut (.ref (n+5)) (.ref h₇.objs.size) >>= _) _ _ _;refine FO ?_;unfold Builtin.SmallTypes.ownedTupleHandOut
 have z8:IsZip (h₇.push { cls:=.type "tuple",data:=.seq #[x,y,z] }) (n+5) (n+3) (n+4) .ellipsis:=FP _ z7
 refine FO (Gk z8 (by simp) fun h₉ z9 q9=>?_)
 replace z9:IsZip h₉ (n+5) (n+3) (n+4) (rawInt h₇.objs.size):=z9
 refine Gk z9 (by simp) fun g za qa=>?_
 replace za:IsZip g (n+5) (n+3) (n+4) (rawInt h₇.objs.size):=za
 have up:∀c o,c≠n+5->h₇.get? c=some o->g.get? c=some o:=fun c o c1 e=>qa.extBut _ _ c1 (q9.extBut _ _ c1 (FP _ e))
 have T8:bv g h₇.objs.size x y z:=qa.extBut _ _ (Hw zl) (q9.extBut _ _ (Hw zl) (F0 _ rfl))
 rw[sz]at za T8
 refine FW ⟨_,rfl,?_⟩
 show Q (.ref h₇.objs.size) _
 rw[sz]
 exact k g za (up _ _ (nn (by omega)) o7) (m1.at fun o e=>up _ o (nn (by omega)) e) (m2.at fun o e=>up _ o (nn (by omega)) e) (m3.at fun o e=>up _ o (nn (by omega)) e) T8 fun c o c1 c2 c3 c4 c5 e=>up c o c1 (kk c o c1 c2 c3 c4 c5 e)
def lG{Q:Fin->Shared->Prop}(hh:A.handled=none)(d1:l1 < n)(gz:IsZip s.heap (n+5) (n+3) (n+4) .none)(gI:bv s.heap (n+3) (.ref n) (.ref (n+1)) (.ref (n+2)))
  (g1:Si kd s.heap n l1 i) (t1:Sq kd s.heap l1 xs) (hx:xs[i]?=none)
  (k:∀(g:Heap) (e:Addr),(∀c o,c≠n+5->c≠n+4->c≠n->c≠n+1->c≠n+2->s.heap.get? c=some o->g.get? c=some o)->(∃o,g.get? e=some o/\o.cls = .type "StopIteration")->E (.ref e) { s with heap:=g }) :
  wpAny (model prog w) A (Builtin.«zip.__next__» ⟨[.ref (n+5)],[]⟩) Q E s:=by
 show wpAny _ _ (field (.ref (n+5)) 2 >>= _) _ _ _;refine FO (Ge gz rfl (x:=.bool false) rfl ?_)
 show wpAny _ _ (field (.ref (n+5)) 3 >>= _) _ _ _;refine FO (Ge gz rfl (x:=.ref (n+3)) rfl (FO (Gj gI rfl ?_)))
 show wpAny _ _ (Builtin.SmallTypes.ownedTupleIsFree (.ref (n+5)) >>= _) _ _ _;refine FO ?_;unfold Builtin.SmallTypes.ownedTupleIsFree
 refine FO (Ge gz rfl (x:=.none) rfl (FW ?_));simp only[HH]
 refine FO (HD (FO (Ge gz rfl (x:=.ref (n+4)) rfl (FO (Gk gz (by simp) fun h₁ z1 q1=>?_)))))
 replace z1:IsZip h₁ (n+5) (n+3) (n+4) .ellipsis:=z1
 refine FO ?_;simp only[List.zipIdx_cons,List.zipIdx_nil,IF,List.forIn_nil]
 refine FO (FO (Hs ?_));show wpAny _ _ (Builtin.SmallTypes.nextOf (.ref n) >>= _) _ _ _
 refine FO (t5 hh (g1.extBut q1.extBut (nn (by omega))) (t1.extBut q1.extBut (nn (by omega))) hx fun h₂ e q2 ⟨oe,ge,ce⟩=>?_)
 have z2:IsZip h₂ (n+5) (n+3) (n+4) .ellipsis:=q2 _ _ (nn (by omega)) z1
 have ez:e≠n+5:=fun u=>by subst u;rw[z2]at ge;cases ge;simp at ce
 exact Gk z2 (by simp) fun h₃ _ q3=>k h₃ e (fun c o c1 _ c3 _ _ u=>q3.extBut _ _ c1 (q2 _ _ c3 (q1.extBut _ _ c1 u))) ⟨oe,q3.extBut _ _ ez ge,ce⟩
def gg{Q:Option Value->Shared->Prop}(d1:l1 < n)(d2:l2 < n)(d3:l3 < n)(gz:IsZip s.heap (n+5) (n+3) (n+4) .none)(gI:bv s.heap (n+3) (.ref n) (.ref (n+1)) (.ref (n+2)))(gO:bv s.heap (n+4) a b c)
  (g1:Si kd s.heap n l1 i) (g2:Si kc s.heap (n+1) l2 i) (g3:Si kc s.heap (n+2) l3 i) (t1:Sq kd s.heap l1 xs) (t2:Sq kc s.heap l2 ys) (t3:Sq kc s.heap l3 zs) (hx:xs[i]?=some x) (hy:ys[i]?=some y) (hz:zs[i]?=some z)
  (k:∀g,IsZip g (n+5) (n+3) (n+4) (rawInt s.heap.objs.size)->bv g (n+4) x y z->Si kd g n l1 (i+1)->Si kc g (n+1) l2 (i+1)->Si kc g (n+2) l3 (i+1)->bv g s.heap.objs.size x y z->
   (∀c o,c≠n+5->c≠n+4->c≠n->c≠n+1->c≠n+2->s.heap.get? c=some o->g.get? c=some o)->Q (some (.ref s.heap.objs.size)) { s with heap:=g }):wpAny (model prog w) A (pyNext (.ref (n+5))) Q E s:=by
 have ty:s.TypeIs (.ref (n+5)) "zip":=⟨_,gz,rfl⟩
 unfold pyNext
 exact FO (wpAny_attempt (Gs (name:=Str.ofString "__next__") ty G5 (GV G5 ty Ir
  (jU d1 d2 d3 gz gI gO g1 g2 g3 t1 t2 t3 hx hy hz fun g a1 a2 a3 a4 a5 a6 a7=>FW (k g a1 a2 a3 a4 a5 a6 a7)) (Ij _))))
def ie{Q:Option Value->Shared->Prop}(hh:A.handled=none)(d1:l1 < n)(gz:IsZip s.heap (n+5) (n+3) (n+4) .none)(gI:bv s.heap (n+3) (.ref n) (.ref (n+1)) (.ref (n+2)))
  (g1:Si kd s.heap n l1 i) (t1:Sq kd s.heap l1 xs) (hx:xs[i]?=none)
  (k:∀g:Heap,(∀c o,c≠n+5->c≠n+4->c≠n->c≠n+1->c≠n+2->s.heap.get? c=some o->g.get? c=some o)->Q none { s with heap:=g }):wpAny (model prog w) A (pyNext (.ref (n+5))) Q E s:=by
 have ty:s.TypeIs (.ref (n+5)) "zip":=⟨_,gz,rfl⟩
 unfold pyNext
 refine FO (wpAny_attempt (Gs (name:=Str.ofString "__next__") ty G5 (GV G5 ty Ir (lG hh d1 gz gI g1 t1 hx fun g e kk ⟨o,ho,hc⟩=>?_) (Ij _))))
 exact FO (wpAny_isInstance (T:="StopIteration") (b:=true) ⟨o,ho,hc⟩ isSubtype_stop (FW (k _ kk)))
end
def yy(a b c:Value):checkTypeCall "zip" ⟨[a,b,c],[]⟩=pure ():=by kernel_rfl
def yz(a b c:Value):checkBuiltinCall "zip.__new__" ⟨[.type "zip",a,b,c],[]⟩=pure ():=by kernel_rfl
def yA(a b c d:Value):argsOk "object.__init__" ⟨[a,b,c,d],[]⟩:=by
 unfold argsOk;rw[signature?_of (id:="object.__init__") (n:="__init__".toList.reverse) (o:="object".toList.reverse) (by kernel_rfl) F.owner_object];kernel_rfl
noncomputable abbrev K3(kd kc:Bool)(h:Heap)(l1 l2 l3:Addr):Heap:=((h.push (it kd l1)).push (it kc l2)).push (it kc l3)
noncomputable abbrev K4(kd kc:Bool)(h:Heap)(l1 l2 l3:Addr):Heap:=(K3 kd kc h l1 l2 l3).push { cls:=.type "tuple",data:=.seq #[.ref h.objs.size,.ref (h.push (it kd l1)).objs.size,.ref ((h.push (it kd l1)).push (it kc l2)).objs.size] }
noncomputable abbrev K5(kd kc:Bool)(h:Heap)(l1 l2 l3:Addr):Heap:=(K4 kd kc h l1 l2 l3).push { cls:=.type "tuple",data:=.seq #[.none,.none,.none] }
noncomputable abbrev K6(kd kc:Bool)(h:Heap)(l1 l2 l3:Addr):Heap:=(K5 kd kc h l1 l2 l3).push { cls:=.type "zip",data:=.fields #[.none,.bool false,.bool false,.ref (K3 kd kc h l1 l2 l3).objs.size,.ref (K4 kd kc h l1 l2 l3).objs.size] }
def gh(kd kc:Bool)(l1 l2 l3:Addr)(xs ys zs:Vw) :
  Meets (Builtin.«zip.__new__» ⟨[.type "zip",.ref l1,.ref l2,.ref l3],[]⟩) (fun _ R s=>Sq kd s.heap l1 xs/\Sq kc s.heap l2 ys/\Sq kc s.heap l3 zs/\R (.ok (.ret (.ref (K5 kd kc s.heap l1 l2 l3).objs.size))) { s with heap:=K6 kd kc s.heap l1 l2 l3 }):=
 .of_wp fun prog w A R s h=>by
  obtain⟨hp,g,d,tk,os⟩:=s;obtain⟨e1,e2,e3,h⟩:=h
  have hsub:=sub_zip
  cases kd with
  |false=>
   cases kc with
   |false=>
    have L1:Heap.IsTuple (Shared.heap ⟨hp,g,d,tk,os⟩) l1 xs:=e1
    have L2:Heap.IsTuple (Shared.heap ⟨hp.push { cls:=.type "tuple_iterator",data:=.fields #[.ref l1,.int 0 0] },g,d,tk,os⟩) l2 ys:=GP e2 _
    have L3:Heap.IsTuple (Shared.heap ⟨(hp.push { cls:=.type "tuple_iterator",data:=.fields #[.ref l1,.int 0 0] }).push { cls:=.type "tuple_iterator",data:=.fields #[.ref l2,.int 0 0] },g,d,tk,os⟩) l3 zs:=GP (GP e3 _) _
    wp_walk using Gm L1,Gm L2,Gm L3
    exact⟨_,rfl,h⟩
   |true=>
    have L1:Heap.IsTuple (Shared.heap ⟨hp,g,d,tk,os⟩) l1 xs:=e1
    have L2:Heap.IsList (Shared.heap ⟨hp.push { cls:=.type "tuple_iterator",data:=.fields #[.ref l1,.int 0 0] },g,d,tk,os⟩) l2 ys:=GW e2 _
    have L3:Heap.IsList (Shared.heap ⟨(hp.push { cls:=.type "tuple_iterator",data:=.fields #[.ref l1,.int 0 0] }).push { cls:=.type "list_iterator",data:=.fields #[.ref l2,.int 0 0] },g,d,tk,os⟩) l3 zs:=GW (GW e3 _) _
    wp_walk using Gm L1,Gu L2,Gu L3
    exact⟨_,rfl,h⟩
  |true=>
   cases kc with
   |false=>
    have L1:Heap.IsList (Shared.heap ⟨hp,g,d,tk,os⟩) l1 xs:=e1
    have L2:Heap.IsTuple (Shared.heap ⟨hp.push { cls:=.type "list_iterator",data:=.fields #[.ref l1,.int 0 0] },g,d,tk,os⟩) l2 ys:=GP e2 _
    have L3:Heap.IsTuple (Shared.heap ⟨(hp.push { cls:=.type "list_iterator",data:=.fields #[.ref l1,.int 0 0] }).push { cls:=.type "tuple_iterator",data:=.fields #[.ref l2,.int 0 0] },g,d,tk,os⟩) l3 zs:=GP (GP e3 _) _
    wp_walk using Gu L1,Gm L2,Gm L3
    exact⟨_,rfl,h⟩
   |true=>
    have L1:Heap.IsList (Shared.heap ⟨hp,g,d,tk,os⟩) l1 xs:=e1
    have L2:Heap.IsList (Shared.heap ⟨hp.push { cls:=.type "list_iterator",data:=.fields #[.ref l1,.int 0 0] },g,d,tk,os⟩) l2 ys:=GW e2 _
    have L3:Heap.IsList (Shared.heap ⟨(hp.push { cls:=.type "list_iterator",data:=.fields #[.ref l1,.int 0 0] }).push { cls:=.type "list_iterator",data:=.fields #[.ref l2,.int 0 0] },g,d,tk,os⟩) l3 zs:=GW (GW e3 _) _
    wp_walk using Gu L1,Gu L2,Gu L3
    exact⟨_,rfl,h⟩
section
variable {kd kc:Bool} {prog:Program} {w:World} {A:Around} {E:Vq} {s:Shared}
def ig{l1 l2 l3:Addr}{xs ys zs:Vw}{Q:Vq}(e1:Sq kd s.heap l1 xs)(e2:Sq kc s.heap l2 ys)(e3:Sq kc s.heap l3 zs)
  (k:∀g,IsZip g (s.heap.objs.size+5) (s.heap.objs.size+3) (s.heap.objs.size+4) .none->bv g (s.heap.objs.size+3) (.ref s.heap.objs.size) (.ref (s.heap.objs.size+1)) (.ref (s.heap.objs.size+2))->
   bv g (s.heap.objs.size+4) .none .none .none->Si kd g s.heap.objs.size l1 0->Si kc g (s.heap.objs.size+1) l2 0->Si kc g (s.heap.objs.size+2) l3 0->
   (∀c o,s.heap.get? c=some o->g.get? c=some o)->Q (.ref (s.heap.objs.size+5)) { s with heap:=g }) :
  wpAny (model prog w) A (call (.type "zip") [.ref l1,.ref l2,.ref l3]) Q E s:=by
 refine callType_new F.called_zip (by decide) (yy _ _ _) (yz _ _ _) (fun obj=>yA obj _ _ _) F.entry_zip_new (gh kd kc l1 l2 l3 xs ys zs) ⟨e1,e2,e3,?_⟩
 have z1:(s.heap.push (it kd l1)).objs.size=s.heap.objs.size+1:=GD ..
 have z2:((s.heap.push (it kd l1)).push (it kc l2)).objs.size=s.heap.objs.size+2:=by rw[GD,z1]
 have z3:(K3 kd kc s.heap l1 l2 l3).objs.size=s.heap.objs.size+3:=by rw[GD,z2]
 have z4:(K4 kd kc s.heap l1 l2 l3).objs.size=s.heap.objs.size+4:=by rw[GD,z3]
 have z5:(K5 kd kc s.heap l1 l2 l3).objs.size=s.heap.objs.size+5:=by rw[GD,z4]
 have p:∀{h:Heap} {b:Addr} {o o':Obj},h.get? b=some o->(h.push o').get? b=some o:=fun e=>FP _ e
 have g6:(K6 kd kc s.heap l1 l2 l3).get? (K5 kd kc s.heap l1 l2 l3).objs.size=some _:=F0 _ rfl
 have g5:(K6 kd kc s.heap l1 l2 l3).get? (K4 kd kc s.heap l1 l2 l3).objs.size=some _:=p (F0 _ rfl)
 have g4:(K6 kd kc s.heap l1 l2 l3).get? (K3 kd kc s.heap l1 l2 l3).objs.size=some _:=p (p (F0 _ rfl))
 have g3:(K6 kd kc s.heap l1 l2 l3).get? ((s.heap.push (it kd l1)).push (it kc l2)).objs.size=some _:=p (p (p (F0 _ rfl)))
 have g2:(K6 kd kc s.heap l1 l2 l3).get? (s.heap.push (it kd l1)).objs.size=some _:=p (p (p (p (F0 _ rfl))))
 have g1:(K6 kd kc s.heap l1 l2 l3).get? s.heap.objs.size=some _:=p (p (p (p (p (F0 _ rfl)))))
 show _/\_
 rw[z3,z4,z5]at g6
 rw[z4]at g5
 rw[z1,z2,z3]at g4
 rw[z2]at g3
 rw[z1]at g2
 rw[z5]
 exact⟨⟨_,g6,rfl⟩,k _ g6 g4 g5 (.mk g1) (.mk g2) (.mk g3) fun c o x=>p (p (p (p (p (p x)))))⟩
end
end Zu
namespace L2
open PySem PySem.Spec PyProof.Rows
noncomputable def xS(kd kc:Bool)(K:Vo)(a b c:Addr):It:=
  ⟨fun i H=>∃xs ys zs x y z,iV kd K H a xs/\iV kc K H b ys/\iV kc K H c zs/\xs[i]?=some x/\ys[i]?=some y/\zs[i]?=some z,
   fun i H v H'=>∃p x y z,v = .ref p/\H p=none/\H'=upd H p (.tup [x,y,z])/\∀xs ys zs,iV kd K H a xs->iV kc K H b ys->iV kc K H c zs->xs[i]?=some x/\ys[i]?=some y/\zs[i]?=some z,
   fun i H=>∃xs,iV kd K H a xs/\xs.length<=i⟩
def pB{kd kc:Bool}{P:Program}{w:World}{K:Vo}{elts:List Expr}{k0:Nat}{AV:Pos}{n a b c:Nat}(d1:a < n)(d2:b < n)(d3:c < n) :
  kH P w K (.Tuple elts k0 AV) (xS kd kc K a b c) [n+5,n+3,n+4,n,n+1,n+2] (n+5) (fun i h=>IsZip h (n+5) (n+3) (n+4) .none/\Zu.bv h (n+3) (.ref n) (.ref (n+1)) (.ref (n+2))/\(∃x y z,Zu.bv h (n+4) x y z)/\Zt.Si kd h n a i/\Zt.Si kc h (n+1) b i/\Zt.Si kc h (n+2) c i) where
 mem:=by simp
 obj:=fun i h st c hc=>by
  obtain⟨gz,gI,⟨x,y,z,gO⟩,g1,g2,g3⟩:=st
  obtain⟨o1,_,e1,f1⟩:=g1.ob;obtain⟨o2,_,e2,f2⟩:=g2.ob;obtain⟨o3,_,e3,f3⟩:=g3.ob
  simp only[F2,F9,GY]at hc
  rcases hc with rfl|rfl|rfl|rfl|rfl|rfl
  ·exact⟨_,gz,fun v q=>by cases q⟩
  ·exact⟨_,gI,fun v q=>by cases q⟩
  ·exact⟨_,gO,fun v q=>by cases q⟩
  ·exact⟨_,e1,fun v q=>by rw[f1]at q;cases q⟩
  ·exact⟨_,e2,fun v q=>by rw[f2]at q;cases q⟩
  ·exact⟨_,e3,fun v q=>by rw[f3]at q;cases q⟩
 keep:=fun i h h' st k=>by
  obtain⟨gz,gI,⟨x,y,z,gO⟩,g1,g2,g3⟩:=st
  exact⟨k _ (by simp) _ gz,k _ (by simp) _ gI,⟨x,y,z,k _ (by simp) _ gO⟩,g1.at fun o e=>k _ (by simp) o e,g2.at fun o e=>k _ (by simp) o e,g3.at fun o e=>k _ (by simp) o e⟩
 item:=by
  intro X hP hw hK hc i pins s σ H E I hf st hg
  subst hP hw hK
  obtain⟨gz,gI,⟨ta,tb,tc,gO⟩,g1,g2,g3⟩:=st
  obtain⟨xs,ys,zs,x,y,z,Cd,CG,EG,hx,hy,hz⟩:=hg
  obtain⟨ia,ra,pa⟩:=I.AB Cd
  obtain⟨ib,rb,pb⟩:=I.AB CG
  obtain⟨ic,rc,pc⟩:=I.AB EG
  obtain⟨u,hu,ru⟩:=ra.get hx
  obtain⟨v,hv,rv⟩:=rb.get hy
  obtain⟨t,ht,rt⟩:=rc.get hz
  refine Zu.gg (kd:=kd) (kc:=kc) d1 d2 d3 gz gI gO g1 g2 g3 pa pb pc (x:=u) (y:=v) (z:=t) (by simpa using hu) (by simpa using hv) (by simpa using ht) fun g a1 a2 a3 a4 a5 a6 a7=>?_
  refine⟨_,rfl,wpAny_letOwnedTupleGo_zip (s:={ s with heap:=g }) a1 fun g' z' q'=>?_⟩
  have kk:∀c o,c ∉ ([n+5,n+3,n+4,n,n+1,n+2]:List Addr)->s.heap.get? c=some o->g'.get? c=some o:=fun c o hc e=>by
   simp only[F2,F9,GY,not_or]at hc
   exact q'.extBut _ _ hc.1 (a7 c o hc.1 hc.2.2.1 hc.2.2.2.1 hc.2.2.2.2.1 hc.2.2.2.2.2 e)
  have I1:Inv X pins σ H { s with heap:=g' }:=I.AS (t':=s.toks) kk hf
  have f0:dM X pins H s.heap.objs.size:=I.A7 (FQ _) (I.hok.fresh (FQ _))
  have eT:zi g' s.heap.objs.size [u,v,t].toArray:=⟨_,q'.extBut _ _ (Hw (FU gz)) a6,rfl,rfl,_,rfl⟩
  have I2:=I1.BW f0 eT (.cons ru (.cons rv (.cons rt .nil))) (by show 3<=sizeLine;decide)
  refine⟨.ref s.heap.objs.size,_,I2,rfl,⟨s.heap.objs.size,x,y,z,rfl,f0.1,rfl,fun xs' ys' zs' h1 h2 h3=>by rw[I.zV h1 Cd,I.zV h2 CG,I.zV h3 EG];exact⟨hx,hy,hz⟩⟩,
   ⟨z',q'.extBut _ _ (Zu.nn (by omega)) (a7 _ _ (Zu.nn (by omega)) (Zu.nn (by omega)) (Zu.nn (by omega)) (Zu.nn (by omega)) (Zu.nn (by omega)) gI),⟨_,_,_,q'.extBut _ _ (Zu.nn (by omega)) a2⟩,a3.extBut q'.extBut (Zu.nn (by omega)),a4.extBut q'.extBut (Zu.nn (by omega)),a5.extBut q'.extBut (Zu.nn (by omega))⟩,fun c hc=>?_⟩
  have hlt:c < s.heap.objs.size:=by
   obtain⟨_,_,e1,_⟩:=g1.ob
   obtain⟨_,_,e2,_⟩:=g2.ob
   obtain⟨_,_,e3,_⟩:=g3.ob
   simp only[F2,F9,GY]at hc
   rcases hc with rfl|rfl|rfl|rfl|rfl|rfl
   ·exact FU gz
   ·exact FU gI
   ·exact FU gO
   ·exact FU e1
   ·exact FU e2
   ·exact FU e3
  rw[ax (Ga hlt)]
  exact(hf c hc).1
 done:=by
  intro X hP hw hK hc i pins s σ H E I hf st hg
  subst hP hw hK
  obtain⟨gz,gI,⟨ta,tb,tc,gO⟩,g1,g2,g3⟩:=st
  obtain⟨xs,Cd,hl⟩:=hg
  obtain⟨ia,ra,pa⟩:=I.AB Cd
  have la:=ra.length
  refine Zu.ie (kd:=kd) (I.ok.hd hc) d1 gz gI g1 pa (by simp;omega) fun g kk=>⟨rfl,I.AS (t':=s.toks) (fun c o hc e=>?_) hf⟩
  simp only[F2,F9,GY,not_or]at hc
  exact kk c o hc.1 hc.2.2.1 hc.2.2.2.1 hc.2.2.2.2.1 hc.2.2.2.2.2 e
 self:=fun _ _ _ _ _ st h=>Iu st.1 h
section
variable {X:Cx}
def xT(kd kc:Bool)(K:Vo)(ta:TA):TI:=fun σ H R=>ta σ H fun vs H1=>∃a b c,vs=[.ref a,.ref b,.ref c]/\(∃xs,iV kd K H1 a xs)/\(∃ys,iV kc K H1 b ys)/\(∃zs,iV kc K H1 c zs)/\R (xS kd kc K a b c) H1
def ur{kd kc:Bool}{elts:List Expr}{k0:Nat}{AV:Pos}{a b c:Expr}{ta:TA}{p pos:Pos}(hg:Gl X "zip")(hm:X.mg "zip" = none)(hv:bootBuiltins "zip" = some (.type "zip"))(ha:PA X [a,b,c] ta)
  (hs:starEach [a,b,c] X.env=[(false,eval a X.env),(false,eval b X.env),(false,eval c X.env)]) (hs2:starEach [b,c] X.env=[(false,eval b X.env),(false,eval c X.env)]):PI X (.Tuple elts k0 AV) (.Call (.Name "zip" p) [a,b,c] [] pos) (xT kd kc X.K ta):=by
 intro pins s σ H R I h
 refine Call_ (fg I hg hm hv (Gx (yK (ha pos pins s σ H _ I h) fun us s1 ⟨vs,H1,I1,r1,q1⟩=>?_) (by rw[hs,hs2]) (by rw[hs2];rfl)))
 obtain⟨a,b,c,e,⟨xs,qa⟩,⟨ys,qb⟩,⟨zs,qc⟩,q⟩:=q1
 subst e
 obtain⟨u,us,rfl⟩:∃u us',us=u::us':=by cases r1;exact⟨_,_,rfl⟩
 cases r1 with
 |cons ru r1=>
 obtain⟨v,t,rfl,rv,rt⟩:=og r1
 cases ru
 cases rv
 cases rt
 obtain⟨ia,ra,pa⟩:=I1.AB qa
 obtain⟨ib,rb,pb⟩:=I1.AB qb
 obtain⟨ic,rc,pc⟩:=I1.AB qc
 have la:a < s1.heap.objs.size:=pa.lt
 have lb:b < s1.heap.objs.size:=pb.lt
 have lc:c < s1.heap.objs.size:=pc.lt
 refine Zu.ig (kd:=kd) (kc:=kc) pa pb pc fun g gz gI gO g1 g2 g3 kk=>?_
 refine Iu (s:={ s1 with heap:=g }) gz ?_
 refine⟨_,[s1.heap.objs.size+5,s1.heap.objs.size+3,s1.heap.objs.size+4,s1.heap.objs.size,s1.heap.objs.size+1,s1.heap.objs.size+2],_,_,H1,rfl,I1.kept (t':=s1.toks) kk,pB la lb lc,⟨gz,gI,⟨_,_,_,gO⟩,g1,g2,g3⟩,fun c hc=>?_,q⟩
 have hle:s1.heap.objs.size<=c:=by
  simp only[F2,F9,GY]at hc
  rcases hc with rfl|rfl|rfl|rfl|rfl|rfl
  ·exact GJ _ _
  ·exact GJ _ _
  ·exact GJ _ _
  ·exact FQ _
  ·exact GJ _ _
  ·exact GJ _ _
 exact I1.A7 hle (I1.hok.fresh hle)
end
end L2
namespace L3
open PySem L2
section
variable {X:Cx} {a b c:Expr} {ta tb tc:aT} {p pos:Pos}
noncomputable def wj(z:PV×PV×PV):PV:=.tup [z.1,z.2.1,z.2.2]
noncomputable def df(xs ys zs:List PV):List PV:=(xs.zip (ys.zip zs)).map wj
def pC{K:Vo}{H0:Hp}{a b c:Addr}{vs us ws:List V}{xs ys zs:List PV}(h1:SqT K H0 a vs)(h2:SqT K H0 b us)(h3:SqT K H0 c ws)(r1:Reps K H0 vs xs)(r2:Reps K H0 us ys)(r3:Reps K H0 ws zs)(l12:xs.length<=ys.length)(l13:xs.length<=zs.length):gM K H0 (xS false false K a b c) ⟨df xs ys zs,fun _=>True⟩:=by
 intro i S H g rS _
 have hv:=g.t _ _ h1
 have hu:=g.t _ _ h2
 have hw:=g.t _ _ h3
 have l1:=r1.length
 refine⟨fun p hp=>?_,fun hi=>⟨vs,hv,?_⟩⟩
 ·unfold df at hp
  rw[F4]at hp
  cases hz:(xs.zip (ys.zip zs))[i]? with
  |none=>rw[hz]at hp;cases hp
  |some z=>
   rw[hz]at hp
   cases hp
   obtain⟨e1,Fm⟩:=Hj.mp hz
   obtain⟨e2,e3⟩:=Hj.mp Fm
   obtain⟨v,hx',rv⟩:=r1.get e1
   obtain⟨u,hy',ru⟩:=r2.get e2
   obtain⟨t,hz',rt⟩:=r3.get e3
   refine⟨⟨vs,us,ws,v,u,t,hv,hu,hw,hx',hy',hz'⟩,fun x H' ⟨q,x2,y2,z2,e3,hq,e4,h⟩=>?_⟩
   subst e3 e4
   obtain⟨k1,k2,k3⟩:=h vs us ws hv hu hw
   rw[hx']at k1
   rw[hy']at k2
   rw[hz']at k3
   cases k1;cases k2;cases k3
   exact⟨.tup (SqT.of aA) (.cons ((rv.mono g).mono (.new hq)) (.cons ((ru.mono g).mono (.new hq)) (.cons ((rt.mono g).mono (.new hq)) .nil))),rS.other hq,.new hq⟩
 ·have e:(df xs ys zs).length=min xs.length (min ys.length zs.length):=by simp[df]
  rw[e]at hi
  omega
def pD(ta tb tc:aT):pp:=fun σ S R E=>ta σ S (fun v S1=>tb σ S1 (fun w S2=>tc σ S2 (fun x S3=>match v,w,x with
 | .tup xs,.tup ys,.tup zs=>xs.length<=ys.length/\xs.length<=zs.length/\R ⟨df xs ys zs,fun _=>True⟩ S3
 |_,_,_=>False) E) E) E
def ut{elts:List Expr}{k0:Nat}{AV:Pos}(hs:starEach [a,b,c] X.env=[(false,eval a X.env),(false,eval b X.env),(false,eval c X.env)])(hs2:starEach [b,c] X.env=[(false,eval b X.env),(false,eval c X.env)])(hg:Gl X "zip")(hm:X.mg "zip" = none)(hv:bootBuiltins "zip" = some (.type "zip"))(ha:jq X [a,b,c] [ta,tb,tc]) :
  rP X (.Tuple elts k0 AV) (.Call (.Name "zip" p) [a,b,c] [] pos) (pD ta tb tc):=
 ⟨j0 (ur (kd:=false) (kc:=false) hg hm hv ha.ok hs hs2) fun σ H R ⟨σ3,S,R3,E3,rσ,rS,h,xo,k⟩=>⟨σ3,S,_,E3,rσ,rS,h,xo,fun v S1 v' H1 h1 rv yT g1=>⟨σ3,S1,_,E3,rσ.mono g1,yT,h1,xo.mono g1,fun w S2 w' H2 h2 rw' AW g2=>⟨σ3,S2,_,E3,(rσ.mono g1).mono g2,AW,h2,(xo.mono g1).mono g2,fun x S3 x' H3 h3 Fn CH g3=>by
  split at h3
  ·cases rv with
   |tup hq rs=>
    cases rw' with
    |tup hq2 D_=>
     cases Fn with
     |tup EH Fo=>exact⟨_,_,_,rfl,⟨_,g3.t _ _ (g2.t _ _ hq)⟩,⟨_,g3.t _ _ hq2⟩,⟨_,EH⟩,k _ S3 _ H3 h3.2.2 (pC (g3.t _ _ (g2.t _ _ hq)) (g3.t _ _ hq2) EH ((rs.mono g2).mono g3) (D_.mono g3) Fo h3.1 h3.2.1) CH ((g1.trans g2).trans g3)⟩
  ·exact h3.elim⟩⟩⟩⟩
end
end L3
namespace L2
open PySem PySem.Spec PyProof.Rows
def gu:fillsNumberSlot (.type "tuple") "mul" = pure false:=
 PySem.fillsNumberSlot_seq (id:="tuple.__mul__") (r:=some (.builtin "tuple.__rmul__")) HK.lookup (by decide +kernel) F.slot_tuple_rmul.lookup (by decide +kernel)
def j9:seqRepeat? (.type "tuple")=pure (some (.builtin "tuple.__mul__")):=by
 unfold seqRepeat?
 rw[PySem.seqSlot_of (T:="tuple") (name:="__mul__") (id:="tuple.__mul__") HK.lookup (by decide +kernel),PySem.seqSlot_of (T:="tuple") (name:="__rmul__") (id:="tuple.__rmul__") F.slot_tuple_rmul.lookup (by decide +kernel)]
 rfl
def iy(a:Int)(t:Tok)(l:Addr)(its:Vw)(n:Nat)(dd:Option Addr)(sl:Array (Option Value)) :
  Meets (Builtin.«int.__rmul__» ⟨[.int a t,.ref l],[]⟩) (fun _ R s=>s.heap.get? l=some { cls:=.type "tuple",dict:=dd,data:=.seq its n,slots:=sl }/\R (.ok (.ret Value.notImplemented)) s):=
 .of_wp fun prog w A R s h=>by obtain⟨hp,g,d,tk,os⟩:=s;obtain⟨hl,h⟩:=h;wp_walk;exact⟨_,rfl,h⟩
def wk(l:Addr)(x:Value)(n:Nat)(dd:Option Addr)(sl:Array (Option Value))(t:Tok) :
  Meets (Builtin.«tuple.__mul__» ⟨[.ref l,.int 1 t],[]⟩) (fun _ R s=>s.heap.get? l=some { cls:=.type "tuple",dict:=dd,data:=.seq #[x] n,slots:=sl }/\R (.ok (.ret (.ref l))) s):=
 .of_wp fun prog w A R s h=>by
  obtain⟨hp,g,d,tk,os⟩:=s;obtain⟨hl,h⟩:=h
  have t1:=AutoSeq1.idx_int
  wp_walk using GQ hl
  exact⟨_,rfl,h⟩
def wm(l:Addr)(x:Value)(n:Nat)(dd:Option Addr)(sl:Array (Option Value))(t:Tok) :
  Meets (Builtin.«tuple.__mul__» ⟨[.ref l,.int 0 t],[]⟩) (fun _ R s=>s.heap.get? l=some { cls:=.type "tuple",dict:=dd,data:=.seq #[x] n,slots:=sl }/\R (.ok (.ret (.ref s.heap.objs.size))) { s with heap:=s.heap.push { cls:=.type "tuple",data:=.seq #[] } }):=
 .of_wp fun prog w A R s h=>by
  obtain⟨hp,g,d,tk,os⟩:=s;obtain⟨hl,h⟩:=h
  have t1:=AutoSeq1.idx_int
  wp_walk using GQ hl
  exact⟨_,rfl,h⟩
def mx(x:Value)(m:Nat):(List.replicate m (#[x]:Vw)).foldl (·++·) #[]=(List.replicate m x).toArray:=by
 have:=fZ [x] m []
 rw[GI]at this
 refine this.trans ?_
 rw[List.flatten_replicate_singleton]
def wn(l:Addr)(x:Value)(n:Nat)(dd:Option Addr)(sl:Array (Option Value))(k:Int)(t:Tok)(h2:2<=k)(hk:k<=2 ^ 20) :
  Meets (Builtin.«tuple.__mul__» ⟨[.ref l,.int k t],[]⟩) (fun _ R s=>s.heap.get? l=some { cls:=.type "tuple",dict:=dd,data:=.seq #[x] n,slots:=sl }/\R (.ok (.ret (.ref s.heap.objs.size))) { s with heap:=s.heap.push { cls:=.type "tuple",data:=.seq ((List.replicate k.toNat #[x]).foldl (·++·) #[]) } }):=
 .of_wp fun prog w A R s h=>by
  obtain⟨hp,g,d,tk,os⟩:=s;obtain⟨hl,h⟩:=h
  have t1:=AutoSeq1.idx_int
  have c1:¬((decide (k < -(2 ^ 63)) || decide (k>=2 ^ 63))=true):=by rw[Bool.or_eq_true,FT,FT];omega
  have c2:¬(((#[x]:Vw).isEmpty || k == 1)=true):=by
   have:(k == 1)=false:=by rw[IJ];omega
   rw[this];simp
  have c3:¬((decide (k<=0) || (#[x]:Vw).isEmpty)=true):=by
   have:decide (k<=0)=false:=GG (by omega)
   rw[this];simp
  have c4:¬(((#[x]:Vw).size:Int) * k > (2 ^ 63 - 1) / 8):=by show ¬((1:Int) * k > _);omega
  have sl:(2:Int) ^ 20<=(sizeLine:Int):=by decide
  have c5:¬(Builtin.Tuple.tupleTooMany (((#[x]:Vw).size:Int) * k)=true):=by show ¬(decide ((1:Int) * k > (sizeLine:Int))=true);rw[FT];omega
  wp_walk using GQ hl
  rw[if_neg c1]
  wp_walk using GQ hl
  rw[if_neg c2]
  wp_walk using GQ hl
  rw[if_neg c3]
  wp_walk using GQ hl
  rw[if_neg c4]
  wp_walk using GQ hl
  rw[if_neg c5]
  wp_walk using GQ hl
  have c6:¬((List.replicate k.toNat (#[x]:Vw)).foldl (·++·) #[]).size > sizeLine:=by
   rw[mx,FY,Gp];have:=Int.toNat_of_nonneg (show 0<=k by omega);omega
  rw[if_neg c6]
  wp_walk using GQ hl
  exact⟨_,rfl,h⟩
section
variable {X:Cx}
def wo(H H':Hp):Prop:=∀c o,H c=some o->H' c=some o
def wq(K:Vo):R2:=fun x y H Q=>∃l k x0,x = .ref l/\y = .int k/\SqT K H l [x0]/\0<=k/\k<=2 ^ 20/\∀r H',wo H H'->SqT K H' r (List.replicate k.toNat x0)->Q (.ref r) H'
def rW:fX X (binaryOp .Mult) (wq X.K):=by
 intro pins s σ H x y v u Q I rx ry h
 obtain⟨l,k,x0,rfl,rfl,hH,h1,h2,q⟩:=h
 cases rx
 obtain⟨t,rfl⟩:=ry
 obtain⟨its,r1,p1,_⟩:=I.tuple hH
 obtain⟨w,rfl,Fp⟩:=r1.one
 obtain⟨⟨cls,dd,data,sl⟩,ho,hc,n,hd⟩:=id p1
 simp only at hc hd
 subst hc hd
 have new:∀(ys:List V) (us:Vv),Vals ys us->ys.length<=sizeLine->ys=List.replicate k.toNat x0->∃v H1,Inv X pins σ H1 { s with heap:=s.heap.push { cls:=.type "tuple",data:=.seq us.toArray } }/\RelV v (.ref s.heap.objs.size)/\Q v H1:=fun ys us r hz e=>
  ⟨.ref s.heap.objs.size,_,I.laid (t':=s.toks) (o:=.tup ys) (fun b ob q=>FP _ q) (FQ _) ⟨hz,_,r,zi.new _ _⟩,rfl,
   q _ _ (fun c o z=>by rw[ax (aN z (I.hok.fresh (FQ _)))];exact z) (by rw[<-e];exact SqT.of aA)⟩
 refine wpAny_binaryOp_repeat_ref (T:="tuple") (U:="int") (by decide) ⟨_,ho,rfl⟩ (fun s'=>typeIs_int s' k t) gu F.fills_int_mul IE j9 F.slot_int_index.lookup
  (HE IE (typeIs_int s k t) F.entry_int_rmul (F.args_int_rmul_2 _ _) (iy k t l _ n dd sl) ⟨ho,rfl,⟨_,ho,rfl⟩,?_⟩)
 by_cases k0:k=0
 ·subst k0
  exact HE HK ⟨_,ho,rfl⟩ F.entry_tuple_mul (F.args_tuple_mul_2 _ _) (wm l w n dd sl t) ⟨ho,new [] [] .nil (Gv _) rfl⟩
 by_cases k1:k=1
 ·subst k1
  exact HE HK ⟨_,ho,rfl⟩ F.entry_tuple_mul (F.args_tuple_mul_2 _ _) (wk l w n dd sl t) ⟨ho,⟨.ref l,H,I,rfl,q l H (fun _ _ e=>e) hH⟩⟩
 ·refine HE HK ⟨_,ho,rfl⟩ F.entry_tuple_mul (F.args_tuple_mul_2 _ _) (wn l w n dd sl k t (by omega) h2) ⟨ho,?_⟩
  rw[mx]
  have hz:(2:Nat) ^ 20<=sizeLine:=by decide
  have e:∀m:Nat,Vals (List.replicate m x0) (List.replicate m w):=fun m=>by
   induction m with
   |zero=>exact .nil
   |succ m ih=>rw[Gf,Gf];exact .cons Fp ih
  exact new _ _ (e k.toNat) (by rw[Gp];omega) rfl
end
end L2
namespace L3
open PySem L2
section
variable {X:Cx}
def kW:R3:=fun x y S Q=>match x,y with
 | .tup [v],.int k=>0<=k/\k<=2 ^ 20/\Q (.tup (List.replicate k.toNat v)) S
 |_,_=>False
def my:gi X (binaryOp .Mult) kW:=⟨fun pins s σ H x y v u Q I rx ry ⟨px,py,S,Q3,r1,r2,rS,q,k⟩=>by
 unfold kW at q
 split at q
 ·cases r2
  cases r1 with
  |tup hq rs=>
   cases rs with
   |cons r0 rn=>
    cases rn
    refine rW pins s σ H _ _ v u Q I rx ry ⟨_,_,_,rfl,rfl,hq,q.1,q.2.1,fun r H' hh hr=>k _ S _ H' q.2.2 (.tup hr ?_) (rS.grow hh) (.same hh)⟩
    have e:∀m:Nat,Reps X.K H (List.replicate m _) (List.replicate m _):=fun m=>by
     induction m with
     |zero=>exact .nil
     |succ m ih=>rw[Gf,Gf];exact .cons r0 ih
    exact(e _).mono (.same hh)
 ·exact q.elim⟩
end
end L3
namespace C
open PySem L2 L3
def fq:bx:=(aE (aC [(aC [(c3 (.int 0)),(c3 (.int 1))]),(ai kW (aC [(c3 (.int 0))]) (ar eS [(v3 0)])),(ai kW (aC [(c3 (.int 0))]) (ar eS [(v3 0)]))]))
def iz(Ch CJ:aD):bx:=(ah (az 2 (aY (pD (ai aj (v3 0) (c3 (.int 1))) (ai aj (v3 0) (c3 (.int 2))) (ai aj (v3 1) (c3 (.int 2)))) (.tp (.cons (.n 0) (.cons (.n 1) (.cons (.n 2) .nil)))) b6 (ar dX [(v3 1),(ai bu (v3 2) (v3 0))]) 3 []))
  (aE (aC [(ae CJ [(ai aj (v3 0) (c3 (.int 0))),(ai aj (v3 1) (c3 (.int 0)))]),(ae Ch [(ai aj (v3 0) (c3 (.int 1))),(ai aj (v3 1) (c3 (.int 1)))]),(ar aL [(v3 2)])])))
def br(Am Au Ci s0 s1:aD):bx:=(ah (az 3 (ae Am [(v3 0)]))
  (ah (dI (bL (v3 2)) (.n 4) (az 3 (ae Au [(v3 3),(ae Ci [(ae s1 [(v3 0),(ai aj (v3 1) (c3 (.int 1))),(ai aj (v3 4) (c3 (.int 1)))]),(ai aj (v3 4) (c3 (.int 0)))])])))
  (aE (v3 3))))
def dg(Am zz Au BY AN s0 s1:aD):bx:=(ah (az 3 (ai aj (v3 1) (c3 (.int 0))))
  (ah (az 4 (ae Am [(v3 0)]))
  (ah (bW (a_ (ai (bJ false) (v3 3) (c3 (.str "pay")))) (aE (aC [(ai aj (v3 1) (c3 (.int 1))),(ai aj (v3 4) (c3 (.int 1))),(ai aj (v3 4) (c3 (.int 2)))])) aX)
  (ah (bW (a_ (ai (bJ false) (v3 3) (c3 (.str "put")))) (aE (aC [(ai aj (v3 4) (c3 (.int 0))),(ae zz [(v3 0),(ai aj (v3 1) (c3 (.int 1))),(ai aj (v3 1) (c3 (.int 2)))]),(ai aj (v3 4) (c3 (.int 2)))])) aX)
  (ah (bW (a_ (ai (bJ false) (v3 3) (c3 (.str "then")))) (aE (ae Au [(ae s1 [(v3 0),(ai aj (v3 1) (c3 (.int 1))),(ai aj (v3 2) (c3 (.int 0)))]),(ae s1 [(v3 0),(ai aj (v3 1) (c3 (.int 2))),(ai aj (v3 2) (c3 (.int 1)))])])) aX)
  (ah (bW (a_ (ai (bJ false) (v3 3) (c3 (.str "often")))) (aE (ae s0 [(v3 0),(v3 1),(v3 2)])) aX)
  (ah (bW (a_ (ai (mr true) (v3 3) (aC [(c3 (.str "either")),(c3 (.str "take"))]))) (aE (v3 4)) aX)
  (ah (az 5 (ae s1 [(v3 0),(ae BY [(v3 1),(v3 2)]),(ai aj (v3 2) (c3 (.int 1)))]))
  (ah (bW (lM (a_ (ai (bJ false) (v3 3) (c3 (.str "take")))) (a_ (ai (bJ false) (ai aj (v3 2) (c3 (.int 0))) (c3 (.int 0))))) (aE (ae Au [(ae AN [(v3 0),(v3 1)]),(v3 5)])) aX)
  (aE (v3 5)))))))))))
def j_(Bz:aD):bx:=(aE (ae Bz [(ai aj (v3 0) (c3 (.int 0))),(ai aj (ai aj (ai aj (v3 0) (c3 (.int 1))) (v3 1)) (c3 (.int 1))),(v3 2)]))
def bQ(yF Bf y_ zX:aD):bx:=(ah (bW (a_ (ai (bJ false) (ae yF [(v3 0),(c3 (.int 2))]) (c3 (.int 0)))) (aE (ae Bf [(v3 0),(c3 (.int 4)),(c3 (.int 4)),(c3 (.int 20))])) aX)
  (ah (az 1 (ae y_ [(v3 0),(c3 (.int 8))]))
  (ah (az 2 (ar aL [(b4 (v3 1) o8 (ng (ae yF [(v3 0),(c3 (.int 5))])))]))
  (ah (az 3 (ai aR (c3 (.int 1)) (ae yF [(v3 0),(c3 (.int 4))])))
  (aE (aC [(v3 2),(ar aL [(aY (dH (v3 3)) (.n 0) b6 (aC [(ai aj (v3 3) (ai aR (c3 (.int 4)) (v3 0))),(ae zX [(v3 1),(v3 2),(dG [(c3 (.int 19))]),(c3 (.int 5))])]) 1 [0,2,1])])]))))))
def b8(yF s0:aD):bx:=(ah (bW (a_ (ai (bJ false) (ai aj (v3 1) (c3 (.int 0))) (c3 (.str "then")))) (ah (az 4 (ae s0 [(v3 0),(ai aj (v3 1) (c3 (.int 1))),(v3 2),(v3 3)]))
  (aE (aC [(v3 4),(ae s0 [(v3 0),(ai aj (v3 1) (c3 (.int 2))),(v3 2),(v3 3)])]))) aX)
  (ah (bW (lN (a_ (ai (bJ false) (ai aj (v3 1) (c3 (.int 0))) (c3 (.str "either")))) (a_ (ai (bJ false) (ai aj (v3 1) (c3 (.int 0))) (c3 (.str "take"))))) (ah (az 5 (ae yF [(v3 0),(c3 (.int 2))]))
  (aE (aC [(v3 5),(ae s0 [(v3 0),(ai aj (v3 1) (ai bu (v3 5) (c3 (.int 2)))),(v3 2),(v3 3)])]))) aX)
  (ah (az 6 (dG []))
  (ah (dI (dH (ai b5 (ae yF [(v3 0),(c3 (.int 4))]) (ar gL [(ai (bJ false) (ai aj (v3 1) (c3 (.int 0))) (c3 (.str "often")))]))) (.n 7) (bW (a_ (ai nw (ai aj (v3 2) (c3 (.int 0))) (c3 (.int 0)))) (ah (i3 (ai bu (ai aj (v3 2) (c3 (.int 0))) (c3 (.int 1))) (v3 2) (c3 (.int 0)))
  (ah (az 8 (ai aR (c3 (.int 1)) (ae yF [(v3 0),(ai aj (dG [(c3 (.int 3)),(v3 3)]) (ae yF [(v3 0),(c3 (.int 2))]))])))
  (fb (kB "list" bK (v3 6) [(aC [(v3 8),(ae s0 [(v3 0),(ai aj (v3 1) (c3 (.int 1))),(v3 2),(v3 3)])])])))) aX))
  (aE (ar aL [(v3 6)]))))))
def cH(Bt:aD):bx:=(ah (az 2 (aY (dH (ar eS [(ai aj (v3 0) (c3 (.int 1)))])) (.n 0) b6 (ai aR (ai aj (ai aj (v3 1) (c3 (.int 1))) (v3 0)) (ai aj (ai aj (v3 2) (c3 (.int 1))) (v3 0))) 1 [0,1]))
  (ah (az 3 (aY (dH (ar eS [(ai aj (v3 0) (c3 (.int 1)))])) (.n 0) b6 (ar dX [(ai aj (ai aj (v3 1) (c3 (.int 2))) (v3 0)),(ai bu (ai aj (ai aj (v3 2) (c3 (.int 2))) (v3 0)) (ai aj (ai aj (v3 1) (c3 (.int 1))) (v3 0)))]) 1 [0,1]))
  (aE (aC [(ae Bt [(ai aj (v3 0) (c3 (.int 0))),(ai aj (v3 1) (c3 (.int 0)))]),(v3 2),(v3 3)]))))
def eg(yM:aD):bx:=(ah (az 2 (aC [(aC [(c3 (.int 0)),(c3 (.int 1))]),(aY (bL (ai aj (v3 0) (c3 (.int 1)))) (.n 0) b6 (c3 (.int 0)) 1 []),(aY (bL (ai aj (v3 0) (c3 (.int 1)))) (.n 0) b6 (c3 (.int 0)) 1 [])]))
  (ah (fj (a_ (ai nw (v3 1) (c3 (.int 0)))) (ah (bW (a_ (ai (bJ false) (ai dJ (v3 1) (c3 (.int 2))) (c3 (.int 1)))) (az 2 (ae yM [(v3 2),(v3 0)])) aX)
  (ah (az 0 (ae yM [(v3 0),(v3 0)]))
  (az 1 (ai dF (v3 1) (c3 (.int 2)))))))
  (aE (v3 2))))
def dh:bx:=(ah (az 3 (aY (bL (v3 0)) (.n 0) b6 (ai b5 (v3 2) (ar gL [(ai (bJ false) (v3 0) (v3 1))])) 1 [1,2]))
  (aE (aC [(aC [(c3 (.int 0)),(c3 (.int 1))]),(v3 3),(aY (bL (v3 3)) (.n 0) b6 (ar dX [(c3 (.int 0)),(ai bu (c3 (.int 0)) (v3 0))]) 1 [])])))
def di(zM yM Bu s0:aD):bx:=(ah (az 3 (ae zM [(v3 0),(c3 (.str "")),(c3 (.int 0))]))
  (ah (az 4 (ai aj (v3 1) (c3 (.int 0))))
  (ah (bW (a_ (ai (bJ false) (v3 4) (c3 (.str "pay")))) (aE (aC [(ai aj (v3 1) (c3 (.int 1))),(ai aj (v3 3) (c3 (.int 1))),(ai aj (v3 3) (c3 (.int 2)))])) aX)
  (ah (bW (a_ (ai (bJ false) (v3 4) (c3 (.str "put")))) (aE (ae zM [(v3 0),(ai aj (v3 1) (c3 (.int 1))),(ai aj (v3 1) (c3 (.int 2)))])) aX)
  (ah (bW (a_ (ai (bJ false) (v3 4) (c3 (.str "then")))) (aE (ae yM [(ae s0 [(v3 0),(ai aj (v3 1) (c3 (.int 1))),(ai aj (v3 2) (c3 (.int 0)))]),(ae s0 [(v3 0),(ai aj (v3 1) (c3 (.int 2))),(ai aj (v3 2) (c3 (.int 1)))])])) aX)
  (ah (bW (lN (a_ (ai (bJ false) (v3 4) (c3 (.str "either")))) (a_ (ai (bJ false) (v3 4) (c3 (.str "take"))))) (ah (bW (lM (a_ (ai (bJ false) (v3 4) (c3 (.str "take")))) (a_ (ai (bJ false) (ai aj (v3 2) (c3 (.int 0))) (c3 (.int 0))))) (az 3 (ae zM [(v3 0),(ai aj (v3 1) (c3 (.int 1))),(ai bu (c3 (.int 0)) (ai aj (v3 1) (c3 (.int 2))))])) aX)
  (aE (ae yM [(v3 3),(ae s0 [(v3 0),(ai aj (v3 1) (ai bu (ai aj (v3 2) (c3 (.int 0))) (c3 (.int 2)))),(ai aj (v3 2) (c3 (.int 1)))])]))) aX)
  (ah (bW (a_ (ai (bJ false) (v3 4) (c3 (.str "often")))) (dI (bL (v3 2)) (.tp (.cons (.n 5) (.cons (.n 6) .nil))) (az 3 (ae yM [(v3 3),(ae Bu [(ae s0 [(v3 0),(ai aj (v3 1) (c3 (.int 1))),(v3 6)]),(v3 5)])]))) aX)
  (aE (v3 3)))))))))
end C
namespace Zv
open PySem
open Sem (wp)
end Zv
namespace L2
open PySem PySem.Spec PyProof.Rows
end L2
namespace L3
open PySem L2
end L3
namespace L2
open PySem PySem.Spec PyProof.Rows
end L2
namespace L3
open PySem L2
end L3
namespace C
open PySem L2 L3
end C
namespace L3
open PySem L2 Xc
end L3
namespace L3
open PySem L2
end L3
namespace L2
open PySem PySem.Spec PyProof.Rows Xc
end L2
namespace L3
open PySem L2 Xc
section
variable {P:Program} {w:World} {K:Vo} {mg:Vr} {base:Heap}
structure bd (K:Vo) (mg:Vr) (x:Str) (st:Stmt) (ps:Vs):Prop where
 ex:∃f fd,wP K mg x st ps f fd
structure zn (P:Program) (w:World) (K:Vo) (mg:Vr) (base:Heap) (k:Nat) (x:Str) (n:Nat) (sp:aD):Prop where
 ex:∃f fd ps,ps.length=n/\CI P w K mg base k f fd ps sp/\mg x=some (.ref f)/\PySem.W.keepIn K (.ref f)=true/\Binds K fd ps []
def eP{x:Str}{st:Stmt}{ps:Vs}{k n:Nat}{t:bx}{sp:aD}(N:Vs)(O:bd K mg x st ps)
  (hbody:∀(f:Addr) (cdv:Value) (A:Around) (outer:List Env) (s:Shared) (H:Hp) (E:XK),Room k (A.deeper (PyProof.Rows.envOfC x (aH st) s.heap.objs.size f cdv))->N.Nodup->ik (xP P w K mg base N x st f cdv A outer s H E) (bA st) t) (e:sp=aZ N.length t)
  (hn:ps.length=n:=by rfl) (S:eM N ps (aH st):=by exact⟨rfl,rfl,rfl,by decide +kernel,rfl,by decide +kernel,by decide +kernel⟩):zn P w K mg base (k+1) x n sp:=by
 subst e
 obtain⟨f,fd,o⟩:=O.ex
 exact⟨f,fd,ps,hn,yf o.F S fun cdv A outer s H E hr=>hbody f cdv A outer s H E hr S.nd,o.m,o.k,o.b⟩
def yB{x:Str}{st:Stmt}{ps:Vs}{k:Nat}{t:bx}{sp:aD}{f:Addr}{fd:FuncData}(N:Vs)(o:wP K mg x st ps f fd)
  (hbody:∀(f:Addr) (cdv:Value) (A:Around) (outer:List Env) (s:Shared) (H:Hp) (E:XK),Room k (A.deeper (PyProof.Rows.envOfC x (aH st) s.heap.objs.size f cdv))->N.Nodup->ik (xP P w K mg base N x st f cdv A outer s H E) (bA st) t) (e:sp=aZ N.length t)
  (S:eM N ps (aH st):=by exact⟨rfl,rfl,rfl,by decide +kernel,rfl,by decide +kernel,by decide +kernel⟩):CI P w K mg base (k+1) f fd ps sp:=by
 subst e
 exact yf o.F S fun cdv A outer s H E hr=>hbody f cdv A outer s H E hr S.nd
def rX:aD:=fun _ _ _ _=>False
theorem zn.zero{x:Str}{st:Stmt}{ps:Vs}{k n:Nat}(O:bd K mg x st ps)(hn:ps.length=n:=by rfl):zn P w K mg base k x n rX:=by
 obtain⟨f,fd,o⟩:=O.ex
 exact⟨f,fd,ps,hn,.zero rfl,o.m,o.k,o.b⟩
theorem nz{b n:Nat}{x:Str}{st:Stmt}{ps:Vs}{r:Nat->aD}(O:bd K mg x st ps)(h:∀j,zn P w K mg base (b+j) x n (r j)->zn P w K mg base (b+j+1) x n (r (j+1)))(h0:r 0=rX)(hn:ps.length=n:=by rfl):∀j,zn P w K mg base (b+j) x n (r j)
 |0=>by rw[h0];exact .zero O hn
 |j+1=>h j (nz O h h0 hn j)
end
section
variable {X:Cx} {a b e o:Expr} {es:List Expr} {ta tb te to:aT} {ts:List aT} {x c m f:Str} {p pos apos cpos:Pos} {j k n:Nat} {sp:aD}
def c4(O:zn X.prog X.w X.K X.mg X.base k x n sp)(hr:Room j X.A)(ha:jq X (e::es) ts)(hj:k<=j:=by omega)(hl:ts.length=n:=by rfl)(hg:Gl X x:=by rfl)(he:starEach (e::es) X.env=(false,eval e X.env)::starEach es X.env:=by rfl)(hdb:(x == ("__debug__":Str))=false:=by decide)(hpl:(backTo pos (starEach es X.env)).any (·.1)=false:=by rfl) :
  bj X (.Call (.Name x p) (e::es) [] pos) (ae sp ts):=by
 obtain⟨f,fd,ps,hn,F,h1,h2,h3⟩:=O.ex
 exact ul F (hr.mono hj) hg h1 h2 h3 he ha (hl.trans hn.symm) hdb hpl
def cB{id:String}{r:ms}(hc:e_ X (.builtin id) r)(hm:X.mg x=none)(ha:jq X (e::es) ts)(hg:Gl X x:=by rfl)(hv:bootBuiltins x=some (.builtin id):=by decide +kernel)(he:starEach (e::es) X.env=(false,eval e X.env)::starEach es X.env:=by rfl)
  (hnn:x ≠ "__name__":=by decide) (hdb:(x == ("__debug__":Str))=false:=by decide) (hpl:(backTo pos (starEach es X.env)).any (·.1)=false:=by rfl):bj X (.Call (.Name x p) (e::es) [] pos) (ar r ts):=rK hc hg hm hv he ha hnn hdb hpl
def cT{id:String}{r:ms}(hc:e_ X (.type id) r)(hm:X.mg x=none)(ha:jq X (e::es) ts)(hg:Gl X x:=by rfl)(hv:bootBuiltins x=some (.type id):=by decide +kernel)(he:starEach (e::es) X.env=(false,eval e X.env)::starEach es X.env:=by rfl)
  (hnn:x ≠ "__name__":=by decide) (hdb:(x == ("__debug__":Str))=false:=by decide) (hpl:(backTo pos (starEach es X.env)).any (·.1)=false:=by rfl):bj X (.Call (.Name x p) (e::es) [] pos) (ar r ts):=rL hc hg hm hv he ha hnn hdb hpl
def lc{r:List Expr}(ha:bj X a ta)(hr:jq X r ts)(hs:starEach (a::r) X.env=(false,eval a X.env)::starEach r X.env:=by rfl):jq X (a::r) (ta::ts):=oR hs ha hr
def l1(ha:bj X a ta)(hs:starEach [a] X.env=(false,eval a X.env)::starEach [] X.env:=by rfl):jq X [a] [ta]:=oR hs ha gJ
def aI{i:Int}{q:Nat}{p2:Pos}(hr:Room j X.A)(ha:bj X a ta)(hs:gX (.Constant (.int i) q p2):=by exact fun _ _=>rfl):bj X (.Subscript a (.Constant (.int i) q p2) pos) (ai aj ta (c3 (.int i))):=v7 (ye (sF hr)) ha aa hs
def dL(hr:Room j X.A)(ha:bj X a ta)(hb:bj X b tb)(hs:gX b:=by exact fun _ _=>rfl):bj X (.Subscript a b pos) (ai aj ta tb):=v7 (ye (sF hr)) ha hb hs
def fe(hr:Room j X.A)(ha:bj X a ta)(hb:bj X b tb):lJ X (.Compare a [.Eq] [b] pos) (a_ (ai (bJ false) ta tb)):=bH (mq (iu hr)) ha hb (a9 _)
def yg(hr:Room j X.A)(ha:bj X a ta)(hb:bj X b tb):lJ X (.Compare a [.NotEq] [b] pos) (a_ (ai (bJ true) ta tb)):=bH (v5 (iu hr)) ha hb (a9 _)
def s4(i:Nat){pos':Pos}(nd:X.N.Nodup)(he:bj X e te)(hi:X.N[i]?=some x:=by rfl)(hx:sn X.env.scope x:=by first|exact Or.inl rfl|exact Or.inr rfl)(hs:swapsWith e (some (.Name x pos')) pos.line X.env=pure false:=by rfl)
  (hf:X.fn x=true\/X.env.scope.names.lookup x=some .local:=by first|exact .inl rfl|exact .inr rfl|assumption):lK X (.Assign [.Name x pos'] e pos) (az i te):=wa nd hi hx he hs hf
def gn(i:Nat)(nd:X.N.Nodup)(hi:X.N[i]?=some x:=by rfl)(hx:sn X.env.scope x:=by first|exact Or.inl rfl|exact Or.inr rfl)(hf:X.fn x=true\/X.env.scope.names.lookup x=some .local:=by first|exact .inl rfl|exact .inr rfl|assumption):qx X (.Name x pos) (.n i):=yx i nd hi hx hf
end
structure u9 (T:String) (name:Str) (id:String):Prop where
 pa:PlainAttrs T
 slot:Slot T name id
 ty:typeOf (.builtin id)=pure (.type "method_descriptor")
section
variable {X:Cx} {e o:Expr} {es:List Expr} {to:aT} {ts:List aT} {name:Str} {T id:String} {p pos apos cpos:Pos} {r:qw}
def cQ:u9 "list" "append" "list.append":=⟨PySem.F.plainAttrs_list,PySem.F.slot_list_append,PySem.F.type_list_append⟩
def uu:u9 "list" "pop" "list.pop":=⟨PySem.F.plainAttrs_list,PySem.F.slot_list_pop,PySem.F.type_list_pop⟩
def mz:u9 "str" "join" "str.join":=⟨PySem.F.plainAttrs_str,PySem.F.slot_str_join,PySem.F.type_str_join⟩
def pE:u9 "str" "index" "str.index":=⟨PySem.F.plainAttrs_str,PySem.F.slot_str_index,PySem.F.type_str_index⟩
def sG(k:u9 T name id)(hm:sC X id r)(ho:bj X o to)(ha:jq X (e::es) ts)(hs:starEach (e::es) X.env=(false,eval e X.env)::starEach es X.env:=by rfl)
  (hbase:attributeBase o name X.env (eval o X.env)=eval o X.env:=by rfl)
  (hfew:((backTo cpos (starEach (e::es) X.env)).all (fun x=>!x.1)&&(backToKw cpos (keywordEach [] X.env)).all (fun x=>x.1.isSome)
   && decide ((e::es).length+([]:List Keyword).length+(if ([]:List Keyword).isEmpty then 0 else 1) < 30))=true:=by rfl)
  (hline:(apos.endLine == cpos.line)=true:=by rfl) (hplain:(backTo cpos (starEach es X.env)).any (·.1)=false:=by rfl):bj X (.Call (.Attribute o name apos) (e::es) [] cpos) (kB T r to ts):=xL k.pa k.slot k.ty hm hs ho ha hbase hfew hline hplain
def xU(k:u9 T name id)(hm:sC X id r)(ho:bj X o to)
  (hbase:attributeBase o name X.env (eval o X.env)=eval o X.env:=by rfl) (hline:(apos.endLine == cpos.line)=true:=by rfl):bj X (.Call (.Attribute o name apos) [] [] cpos) (kB T r to []):=v9 k.pa k.slot k.ty hm ho hbase hline
end
section
variable {X:Cx} {tg iter elt:Expr} {ifs:List Expr} {scope:Scope} {pos:Pos} {ti:pp} {g:Tg} {tc:gV} {te:aT}
def qy(fs:Vs)(own:Nat)(fr:List Nat)(N:Vs)(hi:rP X tg iter ti)(hg:∀B,qx (X.Aa N scope fs B) tg g)(hf:∀B,u8 (X.Aa N scope fs B) ifs tc)(he:∀B,bj (X.Aa N scope fs B) elt te)
  (Cf:g.under own=true:=by rfl) (hc:X.calm=true:=by rfl) (hclos:closureFor scope X.env=pure (bO X.env fs):=by rfl) (hcell:∀y∈scope.names,y.2 ≠ .cell:=by decide +kernel) (hkind:scope.kind = .function:=by rfl)
  (hnames:∀x∈scope.names,x.2 = .local->scope.names.lookup x.1=some .local:=by decide +kernel) (hcl:bI X.env fs:=by repeat' first|exact trivial|exact⟨_,rfl⟩|constructor) (hhas:jS (relabel scope X.env).names (bO X.env fs)=true:=by rfl)
  (hlen:N.length=own+fr.length:=by rfl) (hN:(N.drop own).map some=fr.map (fun j=>X.N[j]?):=by rfl) (hF:zj X.env scope (bO X.env fs) (N.drop own):=by repeat' first|exact trivial|exact .inl rfl|exact .inr rfl|exact rfl|apply And.intro)
  (hs:∀x,foldedSetIterable iter X.env x=pure x:=by intro _;rfl):bj X (.ListComp elt [⟨tg,iter,ifs,0⟩] scope pos) (aY ti g tc te own fr):=uh fs own fr N Cf hc hclos hcell hkind hnames hcl hhas hlen hN hF hi hg hf he hs
def uv(fs:Vs)(own:Nat)(fr:List Nat)(N:Vs)(i:Nat){y:Str}{py spos:Pos}(hX:X.N.Nodup)(hi:rP X tg iter ti)(hg:∀B,qx (X.Aa N scope fs B) tg g)(hf:∀B,u8 (X.Aa N scope fs B) ifs tc)(he:∀B,bj (X.Aa N scope fs B) elt te)
  (hix:X.N[i]?=some y:=by rfl) (hy:X.env.scope.names.lookup y=some .local:=by rfl) (hsw:swapsWith (.ListComp elt [⟨tg,iter,ifs,0⟩] scope pos) (some (.Name y py)) spos.line X.env=pure true:=by rfl)
  (Cf:g.under own=true:=by rfl) (hc:X.calm=true:=by rfl) (hclos:closureFor scope X.env=pure (bO X.env fs):=by rfl) (hcell:∀y∈scope.names,y.2 ≠ .cell:=by decide +kernel) (hkind:scope.kind = .function:=by rfl)
  (hnames:∀x∈scope.names,x.2 = .local->scope.names.lookup x.1=some .local:=by decide +kernel) (hcl:bI X.env fs:=by repeat' first|exact trivial|exact⟨_,rfl⟩|constructor) (hhas:jS (relabel scope X.env).names (bO X.env fs)=true:=by rfl)
  (hlen:N.length=own+fr.length:=by rfl) (hN:(N.drop own).map some=fr.map (fun j=>X.N[j]?):=by rfl) (hF:zj X.env scope (bO X.env fs) (N.drop own):=by repeat' first|exact trivial|exact .inl rfl|exact .inr rfl|exact rfl|apply And.intro)
  (hs:∀x,foldedSetIterable iter X.env x=pure x:=by intro _;rfl):lK X (.Assign [.Name y py] (.ListComp elt [⟨tg,iter,ifs,0⟩] scope pos) spos) (az i (aY ti g tc te own fr)):=uk fs own fr N hX hix hy hsw Cf hc hclos hcell hkind hnames hcl hhas hlen hN hF hi hg hf he hs
end
end L3
namespace L2
open PySem PySem.Spec PyProof.Rows
end L2
namespace L3
open PySem L2
end L3
namespace CY
open PySem L2 L3
end CY
namespace L3
open PySem L2
theorem kX:∀{a b:List Char},a.map Char.toNat=b.map Char.toNat->a=b
 |[],[],_=>rfl
 |[],_::_,h=>by simp at h
 |_::_,[],h=>by simp at h
 |x::a,y::b,h=>by
  simp only[Gd,List.cons.injEq]at h
  rw[kX h.2,Char.toNat_inj.mp h.1]
def aG{a b:String}:(Str.ofString a=Str.ofString b)↔a=b:=by
 refine⟨fun h=>?_,fun h=>by rw[h]⟩
 rw[Str.ofString_eq_toList,Str.ofString_eq_toList]at h
 have h':a.toList.map Char.toNat=b.toList.map Char.toNat:=by
  have:=Gy (fun s:Str=>s.cps.toList) h
  simpa using this
 exact String.toList_inj.mp (kX h')
def pF{i j:Int}(h1:-(2 ^ 64) < i)(h2:i < 2 ^ 64):IntMulOk i j:=(show Cb i j from .inl ⟨h1,h2⟩).ok
def i4{i j:Int}(h1:-(2 ^ 64) < j)(h2:j < 2 ^ 64):IntMulOk i j:=(show Cb i j from .inr ⟨h1,h2⟩).ok
def eh{i j:Int}(h:0<=j):i.fmod j=i % j:=Int.fmod_eq_emod_of_nonneg i h
def sH{i j:Int}(h:0<=j):i.fdiv j=i / j:=Int.fdiv_eq_ediv_of_nonneg i h
def ux{i j:Int}(h:0 < j)(h2:j < 2 ^ 64):jr i j:=⟨by omega,IS (show j.natAbs < 2 ^ 64 by omega) (HG (by decide) (by decide))⟩
def zd(d l:Addr)(S S':au):Prop:=∀a o,S a=some o->a≠d->a≠l->S' a=some o
def zd.refl{d l:Addr}{S:au}:zd d l S S:=fun _ _ h _ _=>h
def zd.trans{d l:Addr}{S S1 S2:au}(a:zd d l S S1)(b:zd d l S1 S2):zd d l S S2:=fun x o h h1 h2=>b x o (a x o h h1 h2) h1 h2
def zd.upd{d l:Addr}{S:au}{o:SO}:zd d l S (aw S d o):=fun x u h h1 h2=>by rw[al h1];exact h
def zd.Fq{d l:Addr}{S:au}{o:SO}:zd d l S (aw S l o):=fun x u h h1 h2=>by rw[al h2];exact h
def zd.new{d l p:Addr}{S:au}{o:SO}(h:S p=none):zd d l S (aw S p o):=fun x u hx h1 h2=>by rw[al (fun e=>by rw[e,h]at hx;cases hx)];exact hx
end L3
local macro_rules | `(tactic| walk_at "x")=>`(tactic| ((try dsimp only [L3.ah,L3.az,L3.aE,L3.fb,L3.bW,L3.aX,L3.ai,L3.v3,L3.c3,L3.lk,L3.bZ,L3.ar,L3.ae,L3.kB,L3.a_,L3.lM,L3.lN,L3.oV,L3.oX,L3.i3,L3.nk,L3.ip,L3.aC,L3.dG,L3.nQ,L3.gW,L3.aj,L3.lS,L3.b4,L3.o8,L3.ng,L3.nh,L3.dS,L3.e9,L3.bu,L3.dJ,L3.dF,L3.lU,L3.nR,L3.nw,L3.wg,L3.bJ,L3.aR,L3.b5,L3.eS,L3.ni,L3.dX,L3.gL,L3.aL,L3.lR,List.set_cons_zero,List.set_cons_succ,List.set_nil,L3.u6,L3.gq,L3.nj,L3.aY,L3.bL,L3.iq,L3.dI,L3.j2,L3.Tg.put,L3.Tg.zB,L3.nl,L3.kT,L3.gr,L3.kU,L3.dH,L3.nu,L3.bK,List.reduceReplicate,List.map_cons,List.map_nil,List.cons_append,List.nil_append]); (try simp only [L3.ah,L3.az,L3.aE,L3.fb,L3.bW,L3.aX,L3.ai,L3.v3,L3.c3,L3.lk,L3.bZ,L3.ar,L3.ae,L3.kB,L3.a_,L3.lM,L3.lN,L3.oV,L3.oX,L3.i3,L3.nk,L3.ip,L3.aC,L3.dG,L3.nQ,L3.gW,L3.aj,L3.lS,L3.b4,L3.o8,L3.ng,L3.nh,L3.dS,L3.e9,L3.bu,L3.dJ,L3.dF,L3.lU,L3.nR,L3.nw,L3.wg,L3.bJ,L3.aR,L3.b5,L3.eS,L3.ni,L3.dX,L3.gL,L3.aL,L3.lR,List.set_cons_zero,List.set_cons_succ,List.set_nil,L3.u6,L3.gq,L3.nj,L3.aY,L3.bL,L3.iq,L3.dI,L3.j2,L3.Tg.put,L3.Tg.zB,L3.nl,L3.kT,L3.gr,L3.kU,L3.dH,L3.nu,L3.bK,List.reduceReplicate,Gd,HJ,List.cons_append,List.nil_append])))
namespace C
open PySem L2 L3
noncomputable def bw(seed number:Int)(l:Addr):List (bt×PV):=[(Sum.inr "seed",.int seed),(Sum.inr "number",.int number),(Sum.inr "left",.ref l)]
structure AD (S:au) (d l:Addr) (seed number:Int) (left:Vu):Prop where
 d:S d=some (.dct (bw seed number l))
 l:S l=some (.lst (left.map PV.int))
 s0:0<=seed
 s1:seed < 2147483647
 nm:0<=number
 lf:∀x∈left,0<=x
 ln:left.length<=100
def yJ(S:au)(d l:Addr):Prop:=∃seed number left,AD S d l seed number left
def AD.ne{S:au}{d l:Addr}{seed number:Int}{left:Vu}(D:AD S d l seed number left):d≠l:=fun e=>by
 have h:=D.d
 rw[e,D.l]at h
 cases h
def yJ.new{S:au}{d l p:Addr}{o:SO}(D:yJ S d l)(h:S p=none):yJ (aw S p o) d l:=by
 obtain⟨s,n,f,D⟩:=D
 refine⟨s,n,f,?_,?_,D.s0,D.s1,D.nm,D.lf,D.ln⟩
 ·rw[al (fun e=>by have:=D.d;rw[e,h]at this;cases this)];exact D.d
 ·rw[al (fun e=>by have:=D.l;rw[e,h]at this;cases this)];exact D.l
def yJ.upd{S:au}{d l p:Addr}{o:SO}(D:yJ S d l)(h1:p≠d)(h2:p≠l):yJ (aw S p o) d l:=by
 obtain⟨s,n,f,D⟩:=D
 exact⟨s,n,f,by rw[al h1.symm];exact D.d,by rw[al h2.symm];exact D.l,D.s0,D.s1,D.nm,D.lf,D.ln⟩
def yJ.free{S:au}{d l p:Addr}(D:yJ S d l)(h:S p=none):p≠d/\p≠l:=by
 obtain⟨s,n,f,D⟩:=D
 exact⟨(fun e=>by have:=D.d;rw[<-e,h]at this;cases this),(fun e=>by have:=D.l;rw[<-e,h]at this;cases this)⟩
def iA(s n m:Int)(l:Addr):jZ (bw s n l) (Sum.inr "number") (.int m)=bw s m l:=by
 simp[jZ,bw,aG]
def pG(s n m:Int)(l:Addr):jZ (bw s n l) (Sum.inr "seed") (.int m)=bw m n l:=by
 simp[jZ,bw,aG]
def uy(s n:Int)(l:Addr):iZ (bw s n l) (Sum.inr "seed")=some (.int s):=by simp[iZ,bw,aG]
def pH(s n:Int)(l:Addr):iZ (bw s n l) (Sum.inr "number")=some (.int n):=by simp[iZ,bw,aG]
def uz(s n:Int)(l:Addr):iZ (bw s n l) (Sum.inr "left")=some (.ref l):=by simp[iZ,bw,aG]
abbrev bf(w:aD):Prop:=∀{S:au} {d l:Addr} {m:Int} {Q:bY} {E:ci},yJ S d l->0 < m->m < 2 ^ 62->(∀r S',0<=r->r < m->yJ S' d l->zd d l S S'->Q (.int r) S')->w [.ref d,.int m] S Q E
def yG:bf (aZ 5 d0):=by
  intro S d l m Q E D h0 h1 k
  obtain⟨seed,number,left,D⟩:=D
  have hne:=D.ne
  have hsz:∀a b,(bw a b l).length < sizeLine:=fun _ _=>cM (by show 3<=1000;decide)
  have fin:∀num BJ S1,AD S1 d l seed num BJ->zd d l S S1->¬(num=0/\0 < BJ.length)->
      (if 0 < num then jr num m/\(bw seed num l).length < sizeLine/\m≠0/\Q (PV.int (num.fmod m)) (aw S1 d (SO.dct (bw seed (num.fdiv m) l)))
       else IntMulOk seed 48271/\(2147483647:Int)≠0/\IntMulOk ((seed * 48271+7919).fmod 2147483647) 40692/\(2147483399:Int)≠0/\(bw seed num l).length < sizeLine/\
        IntMulOk (((seed * 48271+7919).fmod 2147483647 * 40692+104729).fmod 2147483399) (((seed * 48271+7919).fmod 2147483647 * 40692+104729).fmod 2147483399)/\(2147483563:Int)≠0/\
        IntMulOk ((seed * 48271+7919).fmod 2147483647) ((seed * 48271+7919).fmod 2147483647)/\(2147483629:Int)≠0/\
        IntMulOk (((seed * 48271+7919).fmod 2147483647 * (seed * 48271+7919).fmod 2147483647).fmod 2147483629) 2147483563/\m≠0/\
        Q (PV.int ((((seed * 48271+7919).fmod 2147483647 * (seed * 48271+7919).fmod 2147483647).fmod 2147483629 * 2147483563+((((seed * 48271+7919).fmod 2147483647 * 40692+104729).fmod 2147483399) * (((seed * 48271+7919).fmod 2147483647 * 40692+104729).fmod 2147483399)).fmod 2147483563).fmod m))
          (aw S1 d (SO.dct (bw (((seed * 48271+7919).fmod 2147483647 * 40692+104729).fmod 2147483399) num l)))):=by
    intro num BJ S1 D1 O1 hz
    split
    . rename_i hp
      rw[eh (G8 h0),sH (G8 h0)]
      refine⟨ux h0 (by omega),hsz _ _,by omega,k _ _ (IG _ (by omega)) (HV _ h0) ⟨seed,num / m,BJ,ab,by rw[al hne.symm];exact D1.l,D1.s0,D1.s1,HQ D1.nm (G8 h0),D1.lf,D1.ln⟩ (O1.trans .upd)⟩
    . have e1:∀x:Int,x.fmod 2147483647=x % 2147483647:=fun x=>eh (by decide)
      have e2:∀x:Int,x.fmod 2147483399=x % 2147483399:=fun x=>eh (by decide)
      simp only[e1,e2,eh (G8 h0)]
      have p1:=D1.s0
      have p2:=D1.s1
      refine⟨i4 (by decide) (by decide),by decide,i4 (by decide) (by decide),by decide,hsz _ _,pF (by omega) (by omega),by decide,pF (by omega) (by omega),by decide,i4 (by decide) (by decide),by omega,
        k _ _ (IG _ (by omega)) (HV _ h0) ⟨_,num,BJ,ab,by rw[al hne.symm];exact D1.l,by omega,by omega,D1.nm,D1.lf,D1.ln⟩ (O1.trans .upd)⟩
  unfold aZ d0
  rw[show ay 5 [PV.ref d,PV.int m]=[some (.ref d),some (.int m),none,none,none] from rfl]
  simp only[ah]
  refine⟨fun n σ S'=>σ=[some (.ref d),some (.int m),none,none,none]/\∃number left,AD S' d l seed number left/\left.length=n/\zd d l S S',⟨_,rfl,number,left,D,rfl,.refl⟩,?_⟩
  rintro n σ S1 ⟨rfl,num,BJ,D1,hn,O1⟩
  walk_at "x"
  simp only[D1.d,D1.l,pH,uz,uy,pG,iA,ab,F5,FT]
  have hlen:(List.map PV.int BJ).length=BJ.length:=FZ ..
  rw[hlen]
  split
  . rename_i hz
    subst hz
    split
    . rename_i hl
      refine⟨fun σ S'=>σ=[some (.ref d),some (.int m),none,none,none]/\∃number left,AD S' d l seed number left/\left.length < n/\zd d l S S',?_,?_⟩
      . rintro σ' S' ⟨rfl,a,b,h2,h3,h4⟩
        exact⟨_,h3,rfl,a,b,h2,rfl,h4⟩
      . have hl':0 < BJ.length:=by omega
        obtain⟨pre,x,rfl⟩:∃pre x,BJ=pre++[x]:=by
          refine⟨BJ.dropLast,BJ.getLast (by intro e;rw[e]at hl';simp at hl'),(List.dropLast_concat_getLast _).symm⟩
        refine⟨trivial,?_⟩
        rw[show(List.map PV.int (pre++[x]))[(pre++[x]).length - 1]?=some (.int x) by simp,show(List.map PV.int (pre++[x])).dropLast=pre.map PV.int by simp]
        simp only[al hne,D1.d,iA]
        refine⟨hsz _ _,trivial,x,pre,⟨ab,by rw[al hne.symm,ab],D1.s0,D1.s1,D1.lf x (by simp),fun y hy=>D1.lf y (by simp[hy]),by have:=D1.ln;simp at this;omega⟩,?_,O1.trans (zd.Fq.trans .upd)⟩
        rw[<-hn];simp
    . rename_i hl
      exact fin 0 BJ S1 D1 O1 (fun z=>hl (by omega))
  . rename_i hz
    rw[if_neg (by decide)]
    exact fin num BJ S1 D1 O1 (fun z=>hz z.1)
end C
namespace L3
open PySem L2
def Ext(S S':au):Prop:=∀a o,S a=some o->S' a=some o
def Ext.refl{S:au}:Ext S S:=fun _ _ h=>h
def Ext.trans{S S1 S2:au}(a:Ext S S1)(b:Ext S1 S2):Ext S S2:=fun x o h=>b x o (a x o h)
def Ext.new{S:au}{p:Addr}{o:SO}(h:S p=none):Ext S (aw S p o):=fun x u hx=>by rw[al (fun e=>by rw[e,h]at hx;cases hx)];exact hx
def Ext.free{S S':au}(e:Ext S S'){p:Addr}(h:S' p=none):S p=none:=by
 cases q:S p with
 |none=>rfl
 |some o=>rw[e p o q]at h;cases h
theorem dj{g:Tg}{tc:gV}{te:aT}{σ':bV}{keep:au->Prop}{fin:List PV->au->Prop}{S:au}(f:PV->PV)(c:PV->Bool)(hk:keep S):∀(items ys:List PV),
  (∀x∈items,∃σ2,g.put x σ'=some σ2/\(∀Q:Bool->au->Prop,Q (c x) S->tc σ2 S Q fc)/\(c x=true->∀Q:bY,Q (f x) S->te σ2 S Q fc))->ys.length+items.length<=sizeLine->fin (ys++(items.filter c).map f) S->cO g tc te σ' keep fin items ys S
 |[],ys,_,hl,hf=>⟨hk,by simpa using hl,by simpa using hf⟩
 |x::r,ys,h,hl,hf=>by
  obtain⟨σ2,e,h1,h2⟩:=h x (by simp)
  refine⟨hk,by simp at hl;omega,?_⟩
  rw[e]
  refine h1 _ ?_
  cases hc:c x with
  |true=>
   rw[if_pos rfl]
   refine h2 hc _ (dj f c hk r (ys++[f x]) (fun y hy=>h y (by simp[hy])) (by simp at hl ⊢;omega) ?_)
   rw[Ja,hc,if_pos rfl]at hf
   simpa using hf
  |false=>
   rw[if_neg (by decide)]
   refine dj f c hk r ys (fun y hy=>h y (by simp[hy])) (by simp at hl ⊢;omega) ?_
   rw[Ja,hc,if_neg (by decide)]at hf
   exact hf
def nA{g:Tg}{te:aT}{σ':bV}{keep:au->Prop}{fin:List PV->au->Prop}{S:au}(f:PV->PV){items:List PV}(hk:keep S)
  (h:∀x∈items,∃σ2,g.put x σ'=some σ2/\∀Q:bY,Q (f x) S->te σ2 S Q fc) (hl:items.length<=sizeLine) (hf:fin (items.map f) S):cO g b6 te σ' keep fin items [] S:=by
 refine dj f (fun _=>true) hk items [] (fun x hx=>?_) (by simpa using hl) (by rw[List.filter_eq_self.mpr (fun _ _=>rfl)];exact hf)
 obtain⟨σ2,e,k⟩:=h x hx
 exact⟨σ2,e,fun Q q=>q,fun _=>k⟩
theorem jB{g:Tg}{tc:gV}{te:aT}{σ':bV}{keep:au->Prop}{fin:List PV->au->Prop}{items:List PV}(Iv:List PV->List PV->au->Prop)(hk:∀done ys S,Iv done ys S->keep S/\ys.length<=sizeLine)
  (step:∀done x rest ys S (K:List PV->au->Prop),items=done++x::rest->Iv done ys S->(∀ys' S',Iv (done++[x]) ys' S'->K ys' S')->match g.put x σ' with
   |some σ2=>tc σ2 S (fun b S3=>if b=true then te σ2 S3 (fun y S4=>K (ys++[y]) S4) fc else K ys S3) fc
   |none=>False)
  (hf:∀ys S,Iv items ys S->fin ys S):∀(rest done ys:List PV) (S:au),items=done++rest->Iv done ys S->cO g tc te σ' keep fin rest ys S
 |[],done,ys,S,e,h=>by
  rw[Hy]at e
  exact⟨(hk _ _ _ h).1,(hk _ _ _ h).2,hf ys S (e▸h)⟩
 |x::rest,done,ys,S,e,h=>by
  refine⟨(hk _ _ _ h).1,(hk _ _ _ h).2,?_⟩
  exact step done x rest ys S (fun ys' S'=>cO g tc te σ' keep fin rest ys' S') e h fun ys' S' h'=>jB Iv hk step hf rest (done++[x]) ys' S' (by rw[e];simp) h'
theorem kY{g:Tg}{tb:bx}{D:kO}{keep:au->Prop}{items:List PV}(Iv:List PV->bV->au->Prop)(hk:∀done σ S,Iv done σ S->keep S)
  (step:∀done x rest σ S (K:bV->au->Prop),items=done++x::rest->Iv done σ S->(∀σ' S',Iv (done++[x]) σ' S'->K σ' S')->match g.put x σ with
   |some σ'=>tb { D with nx:=K,ct:=K,bk:=D.nx } σ' S
   |none=>False)
  (hd:∀σ S,Iv items σ S->D.nx σ S):∀(rest done:List PV) (σ:bV) (S:au),items=done++rest->Iv done σ S->kR g tb D keep rest σ S
 |[],done,σ,S,e,h=>by
  rw[Hy]at e
  exact⟨hk _ _ _ h,hd σ S (e▸h)⟩
 |x::rest,done,σ,S,e,h=>
  ⟨hk _ _ _ h,step done x rest σ S (kR g tb D keep rest) e h fun σ' S' h'=>kY Iv hk step hd rest (done++[x]) σ' S' (by rw[e];simp) h'⟩
def cz{g:Tg}{tb:bx}{D:kO}{keep:au->Prop}{items:List PV}{σ:bV}{S:au}(Iv:List PV->bV->au->Prop)(h0:Iv [] σ S)(hk:∀done σ S,Iv done σ S->keep S)
  (step:∀done x rest σ S (K:bV->au->Prop),items=done++x::rest->Iv done σ S->(∀σ' S',Iv (done++[x]) σ' S'->K σ' S')->match g.put x σ with
   |some σ'=>tb { D with nx:=K,ct:=K,bk:=D.nx } σ' S
   |none=>False)
  (hd:∀σ S,Iv items σ S->D.nx σ S):kR g tb D keep items σ S:=kY Iv hk step hd items [] σ S rfl h0
def iB{g:Tg}{tc:gV}{te:aT}{σ':bV}{keep:au->Prop}{fin:List PV->au->Prop}{items:List PV}{S:au}(Iv:List PV->List PV->au->Prop)(h0:Iv [] [] S)(hk:∀done ys S,Iv done ys S->keep S/\ys.length<=sizeLine)
  (step:∀done x rest ys S (K:List PV->au->Prop),items=done++x::rest->Iv done ys S->(∀ys' S',Iv (done++[x]) ys' S'->K ys' S')->match g.put x σ' with
   |some σ2=>tc σ2 S (fun b S3=>if b=true then te σ2 S3 (fun y S4=>K (ys++[y]) S4) fc else K ys S3) fc
   |none=>False)
  (hf:∀ys S,Iv items ys S->fin ys S):cO g tc te σ' keep fin items [] S:=jB Iv hk step hf items [] [] S rfl h0
def av{t u:bx}{D:kO}{σ:bV}{S:au}(h:∀N:bV->au->Prop,(∀σ S,u D σ S->N σ S)->t { D with nx:=N } σ S):ah t u D σ S:=h (u D) fun _ _ q=>q
def ft{n:Nat}{b:bx}{args:List PV}{S:au}{Q:bY}{E:ci}(h:b { nx:=fun _ S'=>Q .non S',rt:=Q,ex:=fc } (ay n args) S):aZ n b args S Q E:=h
def pI{α β:Type}(f:α->β)(xs:List α)(lo hi:Option Int):zm (xs.map f) lo hi=(zm xs lo hi).map f:=by
 unfold zm
 rw[FZ,List.map_take,List.map_drop]
def pJ{α:Type}(xs:List α)(lo hi:Option Int):(zm xs lo hi).length<=xs.length:=by
 unfold zm
 rw[GS,GU]
 omega
def cj{n:Nat}(h:n<=1000):n<=sizeLine:=Ia (cM h)
section
variable {α:Type} {a b c d e:α} {l:List α}
def iC:zp (a::l) 0=some a:=by simp[zp,mf]
def eU:zp (a::b::l) 1=some b:=bq (j:=1) rfl
def nS:zp (a::b::c::l) 2=some c:=bq (j:=2) rfl
def uA:zp [a] (-1)=some a:=rfl
def uB:zp [a,b] (-1)=some b:=rfl
def uC:zp [a,b,c] (-1)=some c:=rfl
def uD:zp [a,b,c,d] (-1)=some d:=rfl
def uE:zp [a,b,c,d,e] (-1)=some e:=rfl
def uF:zp [a,b] (-2)=some a:=rfl
def uG:zp [a,b,c] (-2)=some b:=rfl
def uH:zp [a,b,c,d] (-2)=some c:=rfl
def uI:zp [a,b,c,d,e] (-2)=some d:=rfl
end
def cq(lo:Int)(n:Nat):(aV lo n).length=n:=by simp[aV]
end L3
namespace C
open PySem L2 L3
abbrev kZ(w:aD):Prop:=∀{S:au} {ns:Vu} {b:Int} {Q:bY} {E:ci},ns.length<=63->0<=b->b < 1000->(∀d l S',S d=none->S l=none->yJ S' d l->Ext S S'->Q (.ref d) S')->w [.cl (ns.map PV.int),.int b] S Q E
def Bg:kZ (aZ 5 dZ):=by
 intro S ns b Q E hn h0 h1 k
 unfold aZ dZ
 rw[show ay 5 [PV.cl (ns.map PV.int),PV.int b]=[some (.cl (ns.map PV.int)),some (.int b),none,none,none] from rfl]
 walk_at "x"
 intro p hp
 rw[ab]
 dsimp only
 rw[pI]
 have hx:(zm ns (some b) (some 63)).length<=63:=F6 (pJ _ _ _) hn
 generalize zm ns (some b) (some 63)=xs at hx
 refine nA (fun v=>match v with | .int i=>.int (if 0 - i > i then 0 - i else i)|v=>v) ab (fun x hx=>?_) (cj (by rw[FZ];omega)) ?_
 ·obtain⟨i,hi,rfl⟩:=Gg.mp hx
  refine⟨[some (.int i)],rfl,fun Q q=>?_⟩
  walk_at "x"
  exact q
 intro p2 hp2
 rw[ab]
 dsimp only
 rw[Gq]
 have e0:(xs.map ((fun v=>match v with | .int i=>.int (if 0 - i > i then 0 - i else i)|v=>v) ∘ PV.int))=(xs.map fun i=>if 0 - i > i then 0 - i else i).map PV.int:=by
  rw[Gq];rfl
 rw[e0]
 have hy:((xs.map fun i=>if 0 - i > i then 0 - i else i)).length<=63:=by rw[FZ];exact hx
 have CZ:∀y∈xs.map (fun i:Int=>if 0 - i > i then 0 - i else i),0<=y:=by
  intro y hy
  obtain⟨i,_,rfl⟩:=Gg.mp hy
  split<;>omega
 generalize (xs.map fun i=>if 0 - i > i then 0 - i else i)=ys at hy CZ
 have h2:p2≠p:=fun e=>by rw[e,ab]at hp2;cases hp2
 have hp2':S p2=none:=by rw[<-hp2,al h2]
 refine cz (fun done σ S'=>S'=aw (aw S p (.lst (xs.map PV.int))) p2 (.lst (ys.map PV.int))/\∃v2 n,0<=n/\n < 2147483647/\σ=[some (.cl (ns.map PV.int)),some (.int b),v2,some (.ref p2),some (.int n)]) ⟨rfl,none,7919+b,by omega,by omega,rfl⟩ (fun done σ S' h=>by rw[h.1];exact ab) ?_ ?_
 ·rintro done x rest σ S' K e ⟨rfl,v2,n,n0,n1,rfl⟩ hK
  obtain⟨i,hi,rfl⟩:∃i,i∈ys/\x = .int i:=by
   have:x∈ys.map PV.int:=by rw[e];simp
   obtain⟨i,hi,rfl⟩:=Gg.mp this
   exact⟨i,hi,rfl⟩
  walk_at "x"
  refine⟨i4 (by decide) (by decide),by decide,by decide,hK _ _ ⟨rfl,_,_,?_,?_,rfl⟩⟩
  ·rw[eh (by decide)];omega
  ·rw[eh (i:=(n * 48271+_)) (by decide)];omega
 ·rintro σ S' ⟨rfl,v2,n,n0,n1,rfl⟩
  walk_at "x"
  intro d hd
  have hd2:d≠p2:=fun e=>by rw[e,ab]at hd;cases hd
  rw[al hd2]at hd
  have hd1:d≠p:=fun e=>by rw[e,ab]at hd;cases hd
  rw[al hd1]at hd
  rw[al hd2.symm,ab]
  dsimp only
  refine dj (fun v=>v) (fun v=>match v with | .int i=>decide (10 ^ 18<=i)|_=>false) (by rw[al hd2.symm,ab]) _ [] (fun x hx=>?_) (by rw[FZ];exact cj (by simp;omega)) ?_
  ·obtain⟨i,hi,rfl⟩:=Gg.mp hx
   refine⟨[some (.int i)],rfl,fun Q q=>?_,fun _ Q q=>?_⟩
   ·walk_at "x"
    exact⟨⟨by decide,by decide,by decide⟩,q⟩
   ·walk_at "x"
    exact q
  intro p3 hp3
  rw[ab]
  intro l hl
  have e3:([]++List.map (fun v:PV=>v) (List.filter (fun v=>match v with | .int i=>decide (10 ^ 18<=i)|_=>false) (List.map PV.int ys)))=(ys.filter fun i=>decide (10 ^ 18<=i)).map PV.int:=by
   rw[GI,List.map_id',List.filter_map]
   rfl
  rw[e3]at hl ⊢
  rw[<-List.map_reverse]
  generalize EI:aw (aw (aw (aw S p (SO.lst (List.map PV.int xs))) p2 (SO.lst (List.map PV.int ys))) d (SO.dct [])) p3 (SO.lst (List.map PV.int (List.filter (fun i=>decide (10 ^ 18<=i)) ys)))=S3 at hl ⊢
  have EJ:S3 d=some (.dct []):=by rw[<-EI,al (fun e=>by rw[<-e,ab]at hp3;cases hp3),ab]
  have EK:l≠d:=fun e=>by rw[e,EJ]at hl;cases hl
  have Eb:Ext S S3:=by
   rw[<-EI]
   refine(Ext.new hp).trans ((Ext.new hp2).trans ((Ext.new ?_).trans (.new hp3)))
   rw[al hd2,al hd1];exact hd
  refine⟨by rw[al EK.symm];exact EJ,?_⟩
  have e4:kS [(PV.str "seed",PV.int n),(PV.str "number",PV.int 0),(PV.str "left",PV.ref l)]=some (bw n 0 l):=rfl
  rw[e4]
  have e5:j3 [] (bw n 0 l)=bw n 0 l:=by simp[j3,bw,jZ,aG]
  dsimp only
  rw[e5]
  refine k d l _ hd (Eb.free hl) ⟨n,0,_,ab,by rw[al EK,ab],n0,n1,GK _,fun y hy=>?_,?_⟩ ?_
  ·exact CZ y (IC.mp (List.mem_reverse.mp hy)).1
  ·rw[List.length_reverse]
   exact F6 (List.length_filter_le _ _) (by omega)
  ·intro a o ha
   have had:a≠d:=fun e=>by rw[e,hd]at ha;cases ha
   rw[al had,al (fun e=>by rw[e,Eb.free hl]at ha;cases ha)]
   exact Eb a o ha
end C
namespace L3
open PySem L2
theorem iD(S:au):∀zs:List Str,Ag S (zs.map PV.str) (zs.map PyData.str)
 |[]=>.nil
 |z::r=>.cons (.str z) (iD S r)
theorem en:∀{zs:Vs},(∀z∈zs,PyData.strOk z=true)->PyData.canLayAll0 (zs.map PyData.str)=true
 |[],_=>rfl
 |z::r,h=>by
  show(PyData.canLay0 (.str z)&&PyData.canLayAll0 (r.map PyData.str))=true
  rw[en fun y hy=>h y (by simp[hy])]
  have:PyData.canLay0 (.str z)=true:=h z (by simp)
  rw[this];rfl
def iE(z:Str)(zs:Vs):gK (.str z) (zs.map PyData.str)=decide (z∈zs):=by
 unfold gK
 rw[List.any_map,HN,List.any_eq_true,decide_eq_true_iff]
 constructor
 ·rintro⟨y,hy,e⟩
  have e':(y == z)=true:=e
  exact(eq_of_beq e')▸hy
 ·intro h
  exact⟨z,h,beq_self_eq_true z⟩
def mB{neg:Bool}{z:Str}{zs:Vs}{a:Addr}{S:au}{Q:bY}(hS:S a=some (.lst (zs.map PV.str)))(hz:PyData.strOk z=true)(hzs:∀y∈zs,PyData.strOk y=true)(q:Q (.bl (neg != decide (z∈zs))) S):mr neg (.str z) (.ref a) S Q:=by
 unfold mr
 simp only[hS]
 exact⟨_,_,.str z,iD S zs,hz,en hzs,by show 0<=150;decide,by rw[iE];exact q⟩
def eo{neg:Bool}{z:Str}{zs:Vs}{S:au}{Q:bY}(hz:PyData.strOk z=true)(hzs:∀y∈zs,PyData.strOk y=true)(q:Q (.bl (neg != decide (z∈zs))) S):mr neg (.str z) (.tup (zs.map PV.str)) S Q:=by
 unfold mr
 exact⟨_,_,.str z,iD S zs,hz,en hzs,by show 0<=150;decide,by rw[iE];exact q⟩
end L3
namespace C
open PySem L2 L3 Wd
abbrev g7(w:aD):Prop:=∀{S:au} {t b:Int} {Q:bY} {E:ci},0 < b->b.natAbs < 2 ^ 8000->Q (.tup [.int (M3.bc t b),.int (M3.aO t b)]) S->w [.int t,.int b] S Q E
def AX:g7 (aZ 4 fm):=by
 intro S t b Q E hb hs k
 unfold aZ fm
 rw[show ay 4 [PV.int t,PV.int b]=[some (.int t),some (.int b),none,none] from rfl]
 simp only[ah]
 walk_at "x"
 refine⟨fun n σ S'=>S'=S/\∃x y:Int,σ=[some (.int t),some (.int b),some (.int x),some (.int y)]/\0<=x/\0<=y/\Int.gcd x y=Int.gcd t b/\y.toNat=n,⟨_,rfl,_,b,rfl,by split<;>omega,by omega,?_,rfl⟩,?_⟩
 ·split
  ·rw[show(0 - t) = -t by omega,Int.neg_gcd]
  ·rfl
 rintro n σ S' ⟨rfl,x,y,rfl,hx,hy,hg,rfl⟩
 walk_at "x"
 simp only[FT]
 split
 ·rename_i hp
  refine⟨fun σ' Bx=>Bx=S'/\∃x' y':Int,σ'=[some (.int t),some (.int b),some (.int x'),some (.int y')]/\0<=x'/\0<=y'/\Int.gcd x' y'=Int.gcd t b/\y'.toNat < y.toNat,?_,?_⟩
  ·rintro σ' Bx ⟨rfl,x',y',rfl,h1,h2,h3,h4⟩
   exact⟨_,h4,rfl,x',y',rfl,h1,h2,h3,rfl⟩
  ·walk_at "x"
   have e:x.fmod y=x % y:=eh hy
   have l1:=IG x (b:=y) (by omega)
   have l2:=HV x hp
   refine⟨by omega,trivial,y,x.fmod y,rfl,hy,by omega,?_,by omega⟩
   rw[M3.kN];exact hg
 ·rename_i hp
  have CZ:y=0:=by omega
  subst CZ
  have Ec:x=(Int.gcd t b:Int):=by
   rw[<-hg]
   rw[Int.gcd_zero_right]
   omega
  subst Ec
  have gp:(0:Int) < (Int.gcd t b:Int):=HP.mpr (M3.eO (by omega))
  have gl:=M3.oM (t:=t) (b:=b) (by omega)
  have cd:∀z,jr z (Int.gcd t b:Int):=fun z=>⟨by omega,HS (by omega) hs⟩
  refine⟨cd _,cd _,?_⟩
  have d1:=(M3.kM (t:=t) (b:=b) (by omega))
  rw[if_neg (by omega)]at d1
  rw[d1.1,d1.2]
  exact k
structure nB (x y:Int):Prop where
 low:M3.wL x y
 x0:0<=x
 x1:x<=999
 y1:y<=9
def gv{n:Nat}(h:n < 2 ^ 64):n < 2 ^ 8000:=IS h (HG (by decide) (by decide))
abbrev fH(w:aD):Prop:=∀{S:au} {d l:Addr} {Q:bY} {E:ci},yJ S d l->(∀x y S',nB x y->yJ S' d l->zd d l S S'->Q (.tup [.int x,.int y]) S')->w [.ref d] S Q E
def Av{wd wl:aD}(yG:bf wd)(AX:g7 wl):fH (aZ 2 (d4 wd wl)):=by
 intro S d l Q E D k
 unfold aZ d4
 rw[show ay 2 [PV.ref d]=[some (.ref d),none] from rfl]
 walk_at "x"
 refine yG D (by decide) (by decide) fun r S1 r0 r1 D1 O1=>?_
 simp only[F5,FT]
 split
 ·exact k 0 1 S1 ⟨⟨by decide,by decide⟩,by decide,by decide,by decide⟩ D1 O1
 ·split
  ·refine yG D1 (by decide) (by decide) fun r2 S2 a0 a1 D2 O2=>?_
   exact k _ 1 S2 ⟨⟨by decide,Int.gcd_one_right _⟩,by omega,by omega,by decide⟩ D2 (O1.trans O2)
  ·refine yG D1 (by decide) (by decide) fun r2 S2 a0 a1 D2 O2=>yG D2 (by decide) (by decide) fun r3 S3 b0 b1 D3 O3=>?_
   refine AX (by omega) (gv (by omega)) ?_
   have z:=M3.oO (t:=r2) (b:=1+r3) (T:=999) (B:=9) (by omega) (by omega) (by omega) (by omega) (by omega) (by decide) (by decide)
   refine k _ _ S3 ⟨M3.jW (by omega),?_,z.2.1,z.2.2.2⟩ D3 (O1.trans (O2.trans O3))
   unfold M3.bc
   rw[if_neg (by omega)]
   exact HQ a0 (by omega)
def nC{r:Int}(h0:0<=r)(h1:r < 26):∃c,zp abc.cps.toList r=some c/\97<=c/\c<=122:=by
 obtain⟨n,rfl⟩:=G3 h0
 have q:=jV n
 rw[Nat.mod_eq_of_lt (by omega)]at q
 exact⟨_,q,by omega,by omega⟩
def lX{z:Str}(h:Bn z):PyData.strOk z=true:=by
 unfold PyData.strOk
 rw[Array.all_eq_true']
 intro c hc
 have:=h.sm c (by simpa using hc)
 simp;omega
def rY:∀z∈zq,PyData.strOk z=true:=by decide +kernel
theorem gw:∀zs:List Str,texts (zs.map PV.str)=some zs
 |[]=>rfl
 |z::r=>by show(texts (r.map PV.str)).map (z::·)=_;rw[gw r];rfl
def nE:("":Str).length=0:=by decide +kernel
def jC{cs:List Nat}(h:cs.length<=1000):((cs.map jT).map (·.length)).sum+(cs.map jT).length * ("":Str).length<=1000000:=by
 rw[rA,nE]
 omega
def iF{w__law_draw:aD}(yG:bf w__law_draw){S:au}{d l:Addr}{σ:bV}{n:Int}{fin:List PV->au->Prop}(D:yJ S d l)(hn:n.toNat<=100)(h1:lk σ 1=some (.ref d))(h2:lk σ 2=some (.str abc))(hσ:∃x,σ=[x,some (.ref d),some (.str abc)])
  (k:∀(cs:List Nat) S',cs.length=n.toNat->(∀c∈cs,97<=c/\c<=122)->yJ S' d l->zd d l S S'->fin ((cs.map jT).map PV.str) S') :
  cO (Tg.n 0) b6 (ai aj (v3 2) (ae w__law_draw [v3 1,c3 (.int 26)])) σ (fun _=>True) fin (aV 0 n.toNat) [] S:=by
 obtain⟨x0,rfl⟩:=hσ
 refine iB (fun done ys S'=>∃cs:List Nat,ys=(cs.map jT).map PV.str/\cs.length=done.length/\done.length<=n.toNat/\(∀c∈cs,97<=c/\c<=122)/\yJ S' d l/\zd d l S S') ⟨[],rfl,rfl,Gv _,by simp,D,.refl⟩ ?_ ?_ ?_
 ·rintro done ys S' ⟨cs,rfl,e,hd,_⟩
  exact⟨trivial,cj (by rw[FZ,FZ,e];omega)⟩
 ·rintro done x rest ys S' K e ⟨cs,rfl,e2,hd,hc,D',O'⟩ hK
  have hlen:done.length+1<=n.toNat:=by
   have:=Gy List.length e
   rw[cq,F3,F7]at this
   omega
  walk_at "x"
  simp only[b6,HH]
  refine yG D' (by decide) (by decide) fun r S2 r0 r1 D2 O2=>⟨gY.1,?_⟩
  obtain⟨c,ec,c0,c1⟩:=nC r0 r1
  rw[ec]
  refine hK _ _ ⟨cs++[c],by simp,by simp[e2],by simpa using hlen,fun y hy=>?_,D2,O'.trans O2⟩
  rcases Gh.mp hy with hy|hy
  ·exact hc y hy
  ·rw[Gi.mp hy];exact⟨c0,c1⟩
 ·rintro ys S' ⟨cs,rfl,e,hd,hc,D',O'⟩
  exact k cs S' (by rw[e,cq]) hc D' O'
theorem k4{f:Str->List Nat}(r:List Nat):∀xs:List Str,(xs.map f).Nodup->(xs.filter fun z=>f z == r).length<=1
 |[],_=>Gv _
 |x::xs,h=>by
  rw[Gd,Ho]at h
  rw[Ja]
  by_cases e:(f x == r)=true
  ·rw[if_pos e]
   have no:(xs.filter fun z=>f z == r)=[]:=by
    refine List.filter_eq_nil_iff.mpr fun z hz q=>h.1 ?_
    rw[eq_of_beq e,<-eq_of_beq q]
    exact Gg.mpr ⟨z,hz,rfl⟩
   rw[no]
   exact FQ _
  ·rw[if_neg e]
   exact k4 r xs h.2
def pK(r:List Nat):(zq.filter fun z=>z.cps.toList.tail == r).length<=1:=k4 (f:=fun z=>z.cps.toList.tail) r zq (by decide +kernel)
def lY(r:List Nat)(c:Nat)(ns:Vs)(h:ns.length < 17):∃j,j < 26/\cand r (c+j) ∉ zq++ns:=by
 obtain⟨j,hj,free⟩:=na r c ((zq.filter fun z=>z.cps.toList.tail == r)++ns) (by rw[F3];have:=pK r;omega)
 refine⟨j,hj,fun hm=>free ?_⟩
 rcases Gh.mp hm with q|q
 ·exact Hq _ (IC.mpr ⟨q,by simp[cand]⟩)
 ·exact Gb _ q
abbrev cR(w:aD):Prop:=∀{S:au} {d l:Addr} {m:Int} {Q:bY} {E:ci},yJ S d l->0<=m->m<=17->(∀p (ns:Vs) S',ns.length=m.toNat->ns.Nodup->(∀z∈ns,Bn z/\z ∉ zq)->S p=none->p≠d->p≠l->S' p=some (.lst (ns.map PV.str))->yJ S' d l->zd d l S S'->Q (.ref p) S')->w [.ref d,.int m] S Q E
def zr{wd:aD}(yG:bf wd):cR (aZ 11 (cZ wd)):=by
 intro S d l m Q E D h0 h1 k
 unfold cZ
 refine ft ?_
 rw[show ay 11 [PV.ref d,PV.int m]=[some (.ref d),some (.int m),none,none,none,none,none,none,none,none,none] from rfl]
 refine av fun N hN=>?_
 walk_at "x"
 refine hN _ _ (av fun N hN=>?_)
 walk_at "x"
 intro pT hT
 have dT:=D.free hT
 have D0:yJ (aw S pT (.lst (zq.map PV.str))) d l:=D.new hT
 have EL:(aw S pT (.lst (zq.map PV.str))) pT=some (.lst (zq.map PV.str)):=ab
 have O0:zd d l S (aw S pT (.lst (zq.map PV.str))):=.new hT
 have eK:[PV.str "jars",PV.str "deed",PV.str "rest",PV.str "pay",PV.str "put",PV.str "then",PV.str "either",PV.str "take",PV.str "often",PV.str "use"]=zq.map PV.str:=rfl
 rw[eK]
 generalize aw S pT (.lst (zq.map PV.str))=S0 at D0 EL O0 ⊢
 refine hN _ _ (av fun N hN=>?_)
 walk_at "x"
 refine⟨trivial,yG D0 (by decide) (by decide) fun n S1 n0 n1 D1 O1=>⟨by omega,by omega,?_⟩⟩
 refine iF yG D1 (by omega) rfl rfl ⟨_,rfl⟩ fun cs S2 hl hc D2 O2 pj hj=>?_
 simp only[ju,ab,gw]
 refine⟨jC (by omega),?_⟩
 rw[show Txt.join (Str.ofString "") (cs.map jT)=⟨cs.toArray⟩from ij cs]
 refine hN _ _ (av fun N hN=>?_)
 walk_at "x"
 have hcl:cs.length<=5:=by omega
 have lc:(⟨cs.toArray⟩:Str).length=cs.length:=FY
 refine⟨by rw[lc];exact cj (by omega),yG (D2.new hj) (by rw[lc];omega) (by rw[lc];omega) fun at' S3 a0 a1 D3 O3=>yG D3 (by decide) (by decide) fun tu S4 t0 t1 D4 O4=>yG D4 (by decide) (by decide) fun nr S5 r0 r1 D5 O5=>?_⟩
 rw[lc]at a1
 obtain⟨an,rfl⟩:=G3 a0
 obtain⟨tn,rfl⟩:=G3 t0
 refine hN _ _ (av fun N hN=>?_)
 walk_at "x"
 intro q hq
 have dq:=D5.free hq
 have OA:zd d l S0 S5:=O1.trans (O2.trans ((zd.new hj).trans (O3.trans (O4.trans O5))))
 have Ed:=OA _ _ EL dT.1 dT.2
 have EM:pT≠q:=fun e=>by rw[e,hq]at Ed;cases Ed
 have EN:S q=none:=by
  cases e:S q with
  |none=>rfl
  |some o=>rw[OA _ _ (O0 _ _ e dq.1 dq.2) dq.1 dq.2]at hq;cases hq
 refine hN _ _ (av fun N hN=>?_)
 simp only[dI,dH,v3,lk]
 refine⟨by omega,by omega,?_⟩
 refine cz (fun done σ S'=>∃(ns:Vs) (v4 v10:Option PV) (near:Bool),σ=[some (.ref d),some (.int m),some (.str abc),some (.ref pT),v4,some (.str ⟨cs.toArray⟩),some (.int an),some (.int tn),some (.bl near),some (.ref q),v10]/\ns.length=done.length/\ns.Nodup/\(∀z∈ns,Bn z/\z ∉ zq)/\S' q=some (.lst (ns.map PV.str))/\S' pT=some (.lst (zq.map PV.str))/\yJ S' d l/\zd d l S S')
  ⟨[],_,_,_,rfl,rfl,List.nodup_nil,(fun z hz=>nomatch hz),ab,by rw[al EM];exact Ed,D5.new hq,O0.trans (OA.trans (.new hq))⟩ (fun _ _ _ _=>trivial) ?_ ?_
 ·rintro done x rest σ S6 K e ⟨ns,v4,v10,near,rfl,Ee,Ef,w6,Dv,Eg,D6,O6⟩ hK
  have hlen:done.length < m.toNat:=by
   have:=Gy List.length e
   rw[cq,F3,F7]at this
   omega
  have hx:x = .int (0+(done.length:Nat)):=by
   have h2:=Gy (fun l=>l[done.length]?) e
   simp only[GN (FQ _),Nat.sub_self,List.getElem?_cons_zero]at h2
   unfold aV at h2
   rw[F4,IP hlen]at h2
   simpa using h2.symm
  subst hx
  -- the tail: a word is changed Fr it is new,then laid down
  have ql:∀(z:Str) (v4:Option PV) (S7:au),Bn z->S7 q=some (.lst (ns.map PV.str))->S7 pT=some (.lst (zq.map PV.str))->yJ S7 d l->zd d l S S7->
    ah (fj (lN (a_ (ai (mr false) (v3 10) (v3 3))) (a_ (ai (mr false) (v3 10) (v3 9)))) (az 10 (ai aR (ai aj (v3 2) (ai dJ (ai aR (kB "str" gm (v3 2) [(ai aj (v3 10) (c3 (.int 0)))]) (c3 (.int 1))) (c3 (.int 26)))) (b4 (v3 10) (ng (c3 (.int 1))) o8))))
     (fb (kB "list" bK (v3 9) [(v3 10)])) { nx:=K,rt:=Q,ex:=fc,bk:=N,ct:=K } [some (.ref d),some (.int m),some (.str abc),some (.ref pT),v4,some (.str ⟨cs.toArray⟩),some (.int an),some (.int tn),some (.bl near),some (.ref q),some (.str z)] S7:=by
   intro z v4 S7 hz EO EQ D7 O7
   obtain⟨i,r,rfl,hi,Fs,hrs⟩:=hz.cand
   obtain⟨j,hj,free⟩:=lY r i ns (by omega)
   refine⟨fun mm σ S'=>∃t,σ=[some (.ref d),some (.int m),some (.str abc),some (.ref pT),v4,some (.str ⟨cs.toArray⟩),some (.int an),some (.int tn),some (.bl near),some (.ref q),some (.str (cand r (i+t)))]/\S'=S7/\t<=j/\mm=j - t,⟨j,0,rfl,rfl,Gv _,rfl⟩,?_⟩
   rintro mm σ S' ⟨t,rfl,rfl,ht,rfl⟩
   have hw:=oK Fs hrs (i+t)
   have Eh:∀y∈ns,PyData.strOk y=true:=fun y hy=>lX (w6 y hy).1
   have go:t < j->∃N:bV->au->Prop,(∀σ' Bx,N σ' Bx->∃m',m' < j - t/\∃t',σ'=[some (.ref d),some (.int m),some (.str abc),some (.ref pT),v4,some (.str ⟨cs.toArray⟩),some (.int an),some (.int tn),some (.bl near),some (.ref q),some (.str (cand r (i+t')))]/\Bx=S'/\t'<=j/\m'=j - t')/\
     N ([some (.ref d),some (.int m),some (.str abc),some (.ref pT),v4,some (.str ⟨cs.toArray⟩),some (.int an),some (.int tn),some (.bl near),some (.ref q),some (.str (cand r (i+(t+1))))]) S':=fun lt=>
    ⟨fun σ' Bx=>σ'=[some (.ref d),some (.int m),some (.str abc),some (.ref pT),v4,some (.str ⟨cs.toArray⟩),some (.int an),some (.int tn),some (.bl near),some (.ref q),some (.str (cand r (i+(t+1))))]/\Bx=S',fun σ' Bx ⟨e1,e2⟩=>⟨j - (t+1),by omega,t+1,e1,e2,by omega,rfl⟩,rfl,rfl⟩
   have Dw:((((i+t) % 26:Nat):Int)+1).fmod 26=(((i+t+1) % 26:Nat):Int):=by rw[eh (by decide)];omega
   walk_at "x"
   refine mB EQ (lX hw) rY ?_
   simp only[F5,FT]
   split
   ·rename_i g
    have lt:t < j:=Nat.lt_of_le_of_ne ht fun e=>by subst e;exact free (Hq _ g)
    obtain⟨N,hN,hn⟩:=go lt
    rw[if_pos trivial]
    refine⟨N,hN,trivial,hw.line,?_⟩
    rw[jo]
    simp only[gm,oI _ (Nat.mod_lt _ (by decide))]
    refine⟨by decide,gY.1,?_⟩
    rw[Dw,jV (i+t+1)]
    refine⟨hw.line,?_,?_⟩
    ·rw[eN]
     exact cj (show 1+r.toArray.size<=1000 by rw[FY];omega)
    ·rw[eN,jp]
     exact hn
   ·rename_i g
    refine mB EO (lX hw) Eh ?_
    simp only[F5,FT]
    split
    ·rename_i g2
     have lt:t < j:=Nat.lt_of_le_of_ne ht fun e=>by subst e;exact free (Gb _ g2)
     obtain⟨N,hN,hn⟩:=go lt
     refine⟨N,hN,trivial,hw.line,?_⟩
     rw[jo]
     simp only[gm,oI _ (Nat.mod_lt _ (by decide))]
     refine⟨by decide,gY.1,?_⟩
     rw[Dw,jV (i+t+1)]
     refine⟨hw.line,?_,?_⟩
     ·rw[eN]
      exact cj (show 1+r.toArray.size<=1000 by rw[FY];omega)
     ·rw[eN,jp]
      exact hn
    ·rename_i g2
     simp only[EO]
     refine⟨trivial,by rw[FZ];exact cM (by omega),hK _ _ ⟨ns++[cand r (i+t)],_,_,_,rfl,by simp[Ee],List.nodup_append.mpr ⟨Ef,by simp,fun a ha b hb e=>?_⟩,fun z hz=>?_,by rw[II];exact ab,by rw[al EM];exact EQ,D7.upd dq.1 dq.2,fun a o ha h1 h2=>?_⟩⟩
     ·rw[Gi.mp hb]at e
      exact g2 (e▸ha)
     ·rcases Gh.mp hz with hz|hz
      ·exact w6 z hz
      ·rw[Gi.mp hz]
       exact⟨hw,g⟩
     ·rw[al (fun e=>by rw[e,EN]at ha;cases ha)]
      exact O7 a o ha h1 h2
  obtain⟨pw,Ft,pl2⟩:=rB hcl hc (a:=an) (i:=(tn+done.length) % 26) (by omega) (Nat.mod_lt _ (by decide))
  have Dw:((tn:Int)+(0+(done.length:Int))).fmod 26=(((tn+done.length) % 26:Nat):Int):=by rw[eh (by decide)];omega
  have ER:(⟨cs.toArray⟩:Str).length<=sizeLine:=by rw[lc];exact cj (by omega)
  simp only[Tg.put]
  refine av fun N2 AY=>?_
  walk_at "x"
  refine⟨ER,by decide,gY.1,?_⟩
  rw[Dw,jV (tn+done.length)]
  refine⟨F6 (Nat.add_le_add Ft (FQ 1)) (by decide),ER,F6 (Nat.le_of_eq (Array.size_append).symm) (F6 pw.len (by decide)),?_⟩
  refine AY _ _ (av fun N3 Dx=>?_)
  walk_at "x"
  split
  ·refine⟨trivial,yG D6 (by decide) (by decide) fun n2 Sa m0 m1 Da Oa=>⟨by omega,by omega,?_⟩⟩
   refine iF yG Da (by omega) rfl rfl ⟨_,rfl⟩ fun CK Sb hl2 hc2 Db Ob Fu hj2=>?_
   simp only[ju,ab,gw]
   refine⟨jC (by omega),?_⟩
   rw[show Txt.join (Str.ofString "") (CK.map jT)=⟨CK.toArray⟩from ij CK]
   refine Dx _ _ ?_
   have wz:Bn (⟨CK.toArray⟩:Str):=⟨fun e=>by have e':CK=[]:=e;rw[e']at hl2;simp at hl2;omega,by show CK.length<=6;omega,hc2⟩
   have OB:zd d l S6 (aw Sb Fu (.lst ((CK.map jT).map PV.str))):=Oa.trans (Ob.trans (.new hj2))
   exact ql _ _ _ wz (OB _ _ Dv dq.1 dq.2) (OB _ _ Eg dT.1 dT.2) (Db.new hj2) (O6.trans OB)
  ·exact Dx _ _ (ql _ _ S6 pw Dv Eg D6 O6)
 ·rintro σ S6 ⟨ns,v4,v10,near,rfl,Ee,Ef,w6,Dv,Eg,D6,O6⟩
  refine hN _ _ ?_
  walk_at "x"
  exact k q ns S6 (by rw[Ee,cq]) Ef w6 EN dq.1 dq.2 Dv D6 O6
inductive Bd where
 |rest|pay (x y:Int)|put (z:Str) (m:Int)|use (z:Str)|Ai (a:Bd)|yK (a b:Bd)|zY (a b:Bd)|As (z:Str) (m:Int) (a b:Bd)
noncomputable def Bd.pv:Bd->PV
 | .rest=>.tup [.str "rest"]
 | .pay x y=>.tup [.str "pay",.tup [.int x,.int y]]
 | .put z m=>.tup [.str "put",.str z,.int m]
 | .use z=>.tup [.str "use",.str z]
 | .Ai a=>.tup [.str "often",a.pv]
 | .yK a b=>.tup [.str "then",a.pv,b.pv]
 | .zY a b=>.tup [.str "either",a.pv,b.pv]
 | .As z m a b=>.tup [.str "take",.str z,.int m,a.pv,b.pv]
noncomputable def Bd.dep:Bd->Nat
 | .Ai a=>a.dep+1
 | .yK a b=>max a.dep b.dep+1
 | .zY a b=>max a.dep b.dep+1
 | .As _ _ a b=>max a.dep b.dep+1
 |_=>1
noncomputable def Bd.size:Bd->Nat
 | .Ai a=>a.size+1
 | .yK a b=>a.size+b.size+1
 | .zY a b=>a.size+b.size+1
 | .As _ _ a b=>a.size+b.size+1
 |_=>1
noncomputable def Bd.good(js us:Vs):Bd->Prop
 | .rest=>True
 | .pay x y=>nB x y
 | .put z m=>z∈js/\1<=m/\m<=9
 | .use z=>z∈us
 | .Ai a=>a.good js us
 | .yK a b=>a.good js us/\b.good js us
 | .zY a b=>a.good js us/\b.good js us
 | .As z m a b=>z∈js/\1<=m/\m<=9/\a.good js us/\b.good js us
def Bd.zA(t:Bd):1<=t.dep:=by cases t<;>simp[Bd.dep]
theorem Bd.zh:∀t:Bd,t.dep<=t.size
 | .rest=>FQ _
 | .pay _ _=>FQ _
 | .put _ _=>FQ _
 | .use _=>FQ _
 | .Ai a=>by have:=a.zh;simp only[Bd.dep,Bd.size];omega
 | .yK a b=>by have:=a.zh;have:=b.zh;simp only[Bd.dep,Bd.size];omega
 | .zY a b=>by have:=a.zh;have:=b.zh;simp only[Bd.dep,Bd.size];omega
 | .As _ _ a b=>by have:=a.zh;have:=b.zh;simp only[Bd.dep,Bd.size];omega
def cA{α:Type}{xs:List α}{r:Int}(h0:0<=r)(h1:r < xs.length):∃v,zp xs r=some v/\v∈xs:=by
 obtain⟨n,rfl⟩:=G3 h0
 have hn:n < xs.length:=by omega
 exact⟨xs[n],bq (by simp[hn]),List.getElem_mem hn⟩
noncomputable def Bd.leaf:Bd->Prop
 | .rest=>True
 | .pay _ _=>True
 | .put _ _=>True
 |_=>False
def Bd.Aw{t:Bd}(h:t.leaf):t.dep=1/\t.size=1:=by cases t<;>first|exact⟨rfl,rfl⟩|exact h.elim
abbrev fI(w:aD):Prop:=∀{S:au} {d l:Addr} {js:Vs} {Q:bY} {E:ci},yJ S d l->js.length < 2 ^ 61->(∀(t:Bd) S',t.leaf->t.good js []->yJ S' d l->zd d l S S'->Q t.pv S')->w [.ref d,.tup (js.map PV.str)] S Q E
def Ab{wd wc:aD}(yG:bf wd)(Av:fH wc):fI (aZ 4 (d5 wd wc)):=by
 intro S d l js Q E D hj k
 unfold d5
 refine ft ?_
 rw[show ay 4 [PV.ref d,PV.tup (js.map PV.str)]=[some (.ref d),some (.tup (js.map PV.str)),none,none] from rfl]
 refine av fun N hN=>?_
 walk_at "x"
 refine yG D (by decide) (by decide) fun r S1 r0 r1 D1 O1=>?_
 refine hN _ _ (av fun N hN=>?_)
 walk_at "x"
 simp only[F5,FT]
 split
 ·exact k .rest S1 trivial trivial D1 O1
 refine hN _ _ (av fun N hN=>?_)
 walk_at "x"
 simp only[F5,FT,FZ]
 have pay:wc [.ref d] S1 (fun x S=>Q (.tup [.str "pay",x]) S) fc:=Av D1 fun x y S2 c D2 O2=>k (.pay x y) S2 trivial c D2 (O1.trans O2)
 split
 ·rw[if_pos trivial];exact pay
 split
 ·exact pay
 rename_i hr hz
 refine hN _ _ (av fun N hN=>?_)
 walk_at "x"
 refine yG D1 (by decide) (by decide) fun r2 S2 a0 a1 D2 O2 p hp=>yG (D2.new hp) (by decide) (by decide) fun r3 S3 b0 b1 D3 O3=>?_
 have dp:=D2.free hp
 have hp3:=O3 _ _ (ab (S:=S2) (o:=.lst [.int 1,.int 2,.int (1+r2)])) dp.1 dp.2
 simp only[hp3]
 obtain⟨v,hv,hm⟩:=cA (xs:=[PV.int 1,.int 2,.int (1+r2)]) b0 (by simpa using b1)
 rw[hv]
 obtain⟨m,rfl,m0,m1⟩:∃m,v = .int m/\1<=m/\m<=9:=by
  simp only[F2,F9,GY]at hm
  rcases hm with rfl|rfl|rfl
  ·exact⟨1,rfl,by omega,by omega⟩
  ·exact⟨2,rfl,by omega,by omega⟩
  ·exact⟨1+r2,rfl,by omega,by omega⟩
 refine hN _ _ ?_
 walk_at "x"
 simp only[FZ]
 refine yG D3 (by omega) (by omega) fun r4 S4 c0 c1 D4 O4=>?_
 obtain⟨w,hw,Cj⟩:=cA (xs:=js.map PV.str) c0 (by rw[FZ];exact c1)
 dsimp only
 rw[hw]
 obtain⟨z,hz,rfl⟩:=Gg.mp Cj
 exact k (.put z m) S4 trivial ⟨hz,m0,m1⟩ D4 (O1.trans (O2.trans ((zd.new hp).trans (O3.trans O4))))
def Ah(d l x:Addr)(S S':au):Prop:=∀a o,S a=some o->a≠d->a≠l->a≠x->S' a=some o
theorem _root_.L3.zd.x{d l x:Addr}{S S':au}(h:zd d l S S'):Ah d l x S S':=fun a o e h1 h2 _=>h a o e h1 h2
def Ah.trans{d l x:Addr}{S S1 S2:au}(a:Ah d l x S S1)(b:Ah d l x S1 S2):Ah d l x S S2:=fun y o h h1 h2 h3=>b y o (a y o h h1 h2 h3) h1 h2 h3
def Ah.upd{d l x:Addr}{S:au}{o:SO}:Ah d l x S (aw S x o):=fun y u h h1 h2 h3=>by rw[al h3];exact h
abbrev eu(n:Nat)(w:aD):Prop:=∀{S:au} {d l x:Addr} {js:Vs} {left down:Int} {Q:bY} {E:ci},yJ S d l->S x=some (.lst [.int left])->x≠d->x≠l->js.length < 2 ^ 61->0<=left->left < 2 ^ 61->0<=down->down < n->
  (∀(t:Bd) S' left',t.good js []->(t.dep:Int)<=down+1->0<=left'->(t.size:Int)+left'<=left+1->yJ S' d l->S' x=some (.lst [.int left'])->Ah d l x S S'->Q t.pv S')->w [.ref d,.tup (js.map PV.str),.ref x,.int down] S Q E
def Ax{wd wl rb:aD}(yG:bf wd)(Ab:fI wl)(n:Nat)(ih:eu n rb):eu (n+1) (aZ 8 (d6 wd wl rb)):=by
 intro S d l x js left down Q E D hx hxd A9 hj h0 h1 h2 h3 k
 unfold d6
 refine ft ?_
 rw[show ay 8 [PV.ref d,PV.tup (js.map PV.str),PV.ref x,PV.int down]=[some (.ref d),some (.tup (js.map PV.str)),some (.ref x),some (.int down),none,none,none,none] from rfl]
 refine av fun N hN=>?_
 walk_at "x"
 refine yG D (by decide) (by decide) fun r S1 r0 r1 D1 O1=>?_
 have Dc:=O1 _ _ hx hxd A9
 refine hN _ _ (av fun N hN=>?_)
 walk_at "x"
 have a0:zp [PV.int left] 0=some (.int left):=rfl
 simp only[F5,FT,Dc,a0]
 have lf:wl [.ref d,.tup (js.map PV.str)] S1 Q fc:=Ab D1 hj fun t S2 hl hg D2 O2=>k t S2 left hg (by rw[(Bd.Aw hl).1];omega) h0 (by rw[(Bd.Aw hl).2];omega) D2 (O2 _ _ Dc hxd A9) (O1.x.trans O2.x)
 split
 ·rw[if_pos trivial];exact lf
 split
 ·rw[if_pos trivial];exact lf
 split
 ·exact lf
 rename_i hd hl hf
 refine hN _ _ (av fun N hN=>?_)
 simp only[bW,a_,ai,v3,c3,lk,nR,dS,FT]
 have ES:mf [PV.int left].length 0=some 0:=rfl
 split
 ·refine av fun N2 AY=>?_
  walk_at "x"
  simp only[Dc,a0,ES]
  refine AY _ _ ?_
  walk_at "x"
  refine ih (left:=left - 1) (D1.upd hxd A9) ab hxd A9 hj (by omega) (by omega) (by omega) (by omega) fun t S2 l2 hg hdp q0 q1 D2 Ei O2=>?_
  exact k (.Ai t) S2 l2 hg (by simp only[Bd.dep];omega) q0 (by simp only[Bd.size];omega) D2 Ei (O1.x.trans (Ah.upd.trans O2))
 ·refine hN _ _ (av fun N hN=>?_)
  walk_at "x"
  simp only[Dc,a0,ES]
  refine hN _ _ (av fun N hN=>?_)
  walk_at "x"
  refine ih (left:=left - 2) (D1.upd hxd A9) ab hxd A9 hj (by omega) (by omega) (by omega) (by omega) fun ta S2 l2 ga da q0 q1 D2 Ei O2=>?_
  refine hN _ _ (av fun N hN=>?_)
  walk_at "x"
  refine ih (left:=l2) D2 Ei hxd A9 hj q0 (by omega) (by omega) (by omega) fun tb S3 l3 gb db p0 p1 D3 Ej O3=>?_
  have OA:Ah d l x S S3:=O1.x.trans (Ah.upd.trans (O2.trans O3))
  refine hN _ _ (av fun N hN=>?_)
  walk_at "x"
  simp only[FT]
  split
  ·exact k (.yK ta tb) S3 l3 ⟨ga,gb⟩ (by simp only[Bd.dep];omega) p0 (by simp only[Bd.size];omega) D3 Ej OA
  refine hN _ _ (av fun N hN=>?_)
  walk_at "x"
  simp only[F5,FT,FZ]
  have ei:Q (Bd.zY ta tb).pv S3:=k (.zY ta tb) S3 l3 ⟨ga,gb⟩ (by simp only[Bd.dep];omega) p0 (by simp only[Bd.size];omega) D3 Ej OA
  split
  ·rw[if_pos trivial];exact ei
  split
  ·exact ei
  rename_i hz8 hz
  refine hN _ _ (av fun N hN=>?_)
  walk_at "x"
  refine yG D3 (by decide) (by decide) fun r2 S4 e0 e1 D4 O4 p hp=>yG (D4.new hp) (by decide) (by decide) fun r3 S5 b0 b1 D5 O5=>?_
  have dp:=D4.free hp
  have hp3:=O5 _ _ (ab (S:=S4) (o:=.lst [.int 1,.int 1,.int 2,.int (1+r2)])) dp.1 dp.2
  simp only[hp3]
  obtain⟨v,hv,hm⟩:=cA (xs:=[PV.int 1,.int 1,.int 2,.int (1+r2)]) b0 (by simpa using b1)
  rw[hv]
  obtain⟨m,rfl,m0,m1⟩:∃m,v = .int m/\1<=m/\m<=9:=by
   simp only[F2,F9,GY]at hm
   rcases hm with rfl|rfl|rfl|rfl
   ·exact⟨1,rfl,by omega,by omega⟩
   ·exact⟨1,rfl,by omega,by omega⟩
   ·exact⟨2,rfl,by omega,by omega⟩
   ·exact⟨1+r2,rfl,by omega,by omega⟩
  refine hN _ _ ?_
  walk_at "x"
  simp only[FZ]
  refine yG D5 (by omega) (by omega) fun r4 S6 c0 c1 D6 O6=>?_
  obtain⟨w,hw,Cj⟩:=cA (xs:=js.map PV.str) c0 (by rw[FZ];exact c1)
  dsimp only
  rw[hw]
  obtain⟨z,hz,rfl⟩:=Gg.mp Cj
  have Ek:=O4 _ _ Ej hxd A9
  have Fv:x≠p:=fun e=>by rw[e,hp]at Ek;cases Ek
  have Fw:=O6 _ _ (O5 _ _ (show aw S4 p _ x=some (.lst [.int l3]) by rw[al Fv];exact Ek) hxd A9) hxd A9
  exact k (.As z m ta tb) S6 l3 ⟨hz,m0,m1,ga,gb⟩ (by simp only[Bd.dep];omega) p0 (by simp only[Bd.size];omega) D6 Fw (OA.trans (O4.x.trans ((zd.new hp).x.trans (O5.x.trans O6.x))))
end C
local macro_rules | `(tactic| walk_at "w")=>`(tactic| simp only [L3.ah,L3.az,L3.aE,L3.fb,L3.bW,L3.aX,L3.ai,L3.v3,L3.c3,L3.lk,L3.bZ,L3.ar,L3.ae,L3.kB,L3.a_,L3.lM,L3.lN,L3.oV,L3.oX,L3.i3,L3.nk,L3.ip,L3.aC,L3.dG,L3.nQ,L3.gW,L3.aj,L3.lS,L3.b4,L3.o8,L3.ng,L3.nh,L3.dS,L3.e9,L3.bu,L3.dJ,L3.dF,L3.lU,L3.nR,L3.nw,L3.wg,L3.bJ,L3.aR,L3.b5,L3.eS,L3.ni,L3.dX,L3.gL,L3.aL,L3.lR,List.set_cons_zero,List.set_cons_succ,List.set_nil,L3.u6,L3.gq,L3.nj,L3.aY,L3.bL,L3.iq,L3.dI,L3.j2,L3.Tg.put,L3.Tg.zB,L3.nl,L3.kT,L3.gr,L3.kU,L3.dH,L3.nu,L3.bK,List.reduceReplicate,Gd,HJ,List.cons_append,List.nil_append,L3.iC,L3.eU,L3.nS,L3.uA,L3.uB,L3.uC,L3.uD,L3.uE,L3.uF,L3.uG,L3.uH,L3.uI,L3.aG,String.reduceEq,decide_true,decide_false,F5,Iw,Bool.not_true,Bool.not_false,HH,Jd,IV,reduceIte,ite_true,ite_false])
local macro_rules | `(tactic| walk_at "y")=>`(tactic| ((try walk_at "x"); (try walk_at "w")))
namespace C
open PySem L2 L3 Wd
noncomputable def Bd.yI:Bd->Nat
 | .yK a b=>a.yI * b.yI
 | .zY a b=>a.yI+b.yI
 | .As _ _ a b=>a.yI+b.yI
 |_=>1
noncomputable def Bd.yN:Bd->Nat
 | .Ai a=>a.yI+a.yN
 | .yK a b=>a.yN+b.yN
 | .zY a b=>a.yN+b.yN
 | .As _ _ a b=>a.yN+b.yN
 |_=>0
theorem Bd.ze:∀t:Bd,t.yI<=2 ^ t.size
 | .rest=>by simp[Bd.yI,Bd.size]
 | .pay _ _=>by simp[Bd.yI,Bd.size]
 | .put _ _=>by simp[Bd.yI,Bd.size]
 | .use _=>by simp[Bd.yI,Bd.size]
 | .Ai a=>by simp only[Bd.yI,Bd.size];exact Nat.one_le_two_pow
 | .yK a b=>by
  simp only[Bd.yI,Bd.size]
  refine F6 (Nat.mul_le_mul a.ze b.ze) ?_
  rw[<-Nat.pow_add]
  exact G1 (by decide) (by omega)
 | .zY a b=>by
  simp only[Bd.yI,Bd.size]
  have h1:2 ^ a.size<=2 ^ (a.size+b.size):=G1 (by decide) (by omega)
  have h2:2 ^ b.size<=2 ^ (a.size+b.size):=G1 (by decide) (by omega)
  have:=a.ze
  have:=b.ze
  rw[Nat.pow_succ]
  omega
 | .As _ _ a b=>by
  simp only[Bd.yI,Bd.size]
  have h1:2 ^ a.size<=2 ^ (a.size+b.size):=G1 (by decide) (by omega)
  have h2:2 ^ b.size<=2 ^ (a.size+b.size):=G1 (by decide) (by omega)
  have:=a.ze
  have:=b.ze
  rw[Nat.pow_succ]
  omega
def Bd.BN{t:Bd}(h:t.size<=60):(t.yI:Int) < 2 ^ 64:=by
 have h1:=t.ze
 have h2:2 ^ t.size<=2 ^ 60:=G1 (by decide) h
 omega
abbrev bR(n:Nat)(w:aD):Prop:=∀{S:au} {t:Bd} {Q:bY} {E:ci},t.dep<=n->t.size<=60->Q (.int t.yI) S->w [t.pv] S Q E
def nF{s0:aD}(n:Nat)(ih:bR n s0):bR (n+1) (aZ 1 (bM s0)):=by
 intro S t Q E hd hs k
 unfold bM
 refine ft ?_
 rw[show ay 1 [t.pv]=[some t.pv] from rfl]
 cases t with
 |yK a b=>
  simp only[Bd.dep,Bd.size]at hd hs
  simp only[Bd.pv]
  walk_at "w"
  refine ih (by omega) (by omega) (ih (by omega) (by omega) ⟨pF (by omega) (Bd.BN (by omega)),?_⟩)
  simpa [Bd.yI]using k
 |zY a b=>
  simp only[Bd.dep,Bd.size]at hd hs
  simp only[Bd.pv]
  walk_at "w"
  refine ih (by omega) (by omega) (ih (by omega) (by omega) ?_)
  simpa [Bd.yI]using k
 |As z m a b=>
  simp only[Bd.dep,Bd.size]at hd hs
  simp only[Bd.pv]
  walk_at "w"
  refine ih (by omega) (by omega) (ih (by omega) (by omega) ?_)
  simpa [Bd.yI]using k
 |_=>
  simp only[Bd.pv]
  walk_at "w"
  exact k
abbrev dk(n:Nat)(w:aD):Prop:=∀{S:au} {t:Bd} {Q:bY} {E:ci},t.dep<=n->t.size<=60->Q (.int t.yN) S->w [t.pv] S Q E
def fJ:∀y∈(["then","either","take"]:Vs),PyData.strOk y=true:=by decide +kernel
def fK:∀y∈(["rest","pay","put","use","often","then","either","take"]:Vs),PyData.strOk y=true:=by decide +kernel
def nG{x0 s0:aD}(n m:Nat)(hp:bR m x0)(ih:dk n s0)(hnm:n<=m):dk (n+1) (aZ 1 (bE x0 s0)):=by
 intro S t Q E hd hs k
 unfold bE
 refine ft ?_
 rw[show ay 1 [t.pv]=[some t.pv] from rfl]
 have e3:[PV.str "then",PV.str "either",PV.str "take"]=(["then","either","take"]:Vs).map PV.str:=rfl
 cases t with
 |Ai a=>
  simp only[Bd.dep,Bd.size]at hd hs
  simp only[Bd.pv]
  walk_at "y"
  refine hp (by omega) (by omega) (ih (by omega) (by omega) ?_)
  simpa [Bd.yN]using k
 |yK a b=>
  simp only[Bd.dep,Bd.size]at hd hs
  simp only[Bd.pv]
  walk_at "y"
  rw[e3]
  refine eo (fK _ (by simp)) fJ ?_
  simp[aG]
  refine ih (by omega) (by omega) (ih (by omega) (by omega) ?_)
  simpa [Bd.yN]using k
 |zY a b=>
  simp only[Bd.dep,Bd.size]at hd hs
  simp only[Bd.pv]
  walk_at "y"
  rw[e3]
  refine eo (fK _ (by simp)) fJ ?_
  simp[aG]
  refine ih (by omega) (by omega) (ih (by omega) (by omega) ?_)
  simpa [Bd.yN]using k
 |As z m a b=>
  simp only[Bd.dep,Bd.size]at hd hs
  simp only[Bd.pv]
  walk_at "y"
  rw[e3]
  refine eo (fK _ (by simp)) fJ ?_
  simp[aG]
  refine ih (by omega) (by omega) (ih (by omega) (by omega) ?_)
  simpa [Bd.yN]using k
 |_=>
  simp only[Bd.pv]
  walk_at "y"
  rw[e3]
  refine eo (fK _ (by simp)) fJ ?_
  simp[aG]
  simpa [Bd.yN]using k
abbrev dr(w:aD):Prop:=∀{S:au} {d l:Addr} {js:Vs} {size bound:Int} {Q:bY} {E:ci},yJ S d l->js.length < 2 ^ 61->1<=size->size<=60->
  (∀(t:Bd) S',t.good js []->t.dep<=6->t.size<=60->(t.size:Int)<=max size 4->((t.yI:Int)+t.yN<=bound\/(t.yI:Int)+t.yN<=2)->yJ S' d l->zd d l S S'->Q t.pv S')->w [.ref d,.tup (js.map PV.str),.int size,.int bound] S Q E
def ke{x0 x1 x2 x3:aD}(n:Nat)(hn:6<=n)(Ax:eu n x0)(Dd:bR n x1)(De:dk n x2)(Ab:fI x3):dr (aZ 5 (bP x0 x1 x2 x3)):=by
 intro S d l js size bound Q E D hj h1 h2 k
 unfold bP
 refine ft ?_
 rw[show ay 5 [PV.ref d,PV.tup (js.map PV.str),PV.int size,PV.int bound]=[some (.ref d),some (.tup (js.map PV.str)),some (.int size),some (.int bound),none] from rfl]
 refine av fun N hN=>?_
 walk_at "x"
 intro p hp
 have dp:=D.free hp
 refine Ax (D.new hp) ab dp.1 dp.2 hj (by omega) (by omega) (by decide) (by omega) fun t S1 l1 hg hd q0 q1 D1 Dc O1=>?_
 have EU:zd d l S S1:=fun a o ha h1 h2=>O1 a o (by rw[al (fun e=>by rw[e,hp]at ha;cases ha)];exact ha) h1 h2 (fun e=>by rw[e,hp]at ha;cases ha)
 refine hN _ _ (av fun N hN=>?_)
 simp only[bW,a_,ai,ae,bZ,v3,lk,List.set_cons_zero,List.set_cons_succ,nw,aR,dS]
 refine Dd (by omega) (by omega) (De (by omega) (by omega) ?_)
 simp only[FT]
 split
 ·walk_at "x"
  refine Ab D1 hj fun t2 S2 hl2 C_ D2 O2=>Ab D2 hj fun t3 S3 hl3 Fx D3 O3=>?_
  refine hN _ _ ?_
  walk_at "x"
  have e2:=Bd.Aw hl2
  have e3:=Bd.Aw hl3
  refine k (.yK (.Ai t2) t3) S3 ⟨C_,Fx⟩ (by simp only[Bd.dep];omega) (by simp only[Bd.size];omega) (by simp only[Bd.size];omega) (.inr ?_) D3 (EU.trans (O2.trans O3))
  have c2:t2.yI=1/\t2.yN=0:=by cases t2<;>first|exact⟨rfl,rfl⟩|exact hl2.elim
  have c3:t3.yI=1/\t3.yN=0:=by cases t3<;>first|exact⟨rfl,rfl⟩|exact hl3.elim
  simp only[Bd.yI,Bd.yN,c2,c3]
  decide
 ·rename_i hb
  walk_at "x"
  refine hN _ _ ?_
  walk_at "x"
  exact k t S1 hg (by omega) (by omega) (by omega) (.inl (by omega)) D1 EU
structure Sh (S:au) (v:PV) (d:PyData) (n k:Nat):Prop where
 dat:Dat S v d
 lay:d.canLay0=true
 CL:d.showable=true
 dep:d.depth<=k
 len:d.shown.length<=n
structure By (S:au) (vs:List PV) (ds:List PyData) (n k:Nat):Prop where
 dat:Ag S vs ds
 lay:PyData.canLayAll0 ds=true
 CL:PyData.showableAll ds=true
 dep:PyData.depthAll ds<=k
 len:piled (PyData.shownAll ds)<=n
def Sh.le{S:au}{v:PV}{d:PyData}{n k m j:Nat}(h:Sh S v d n k)(a:n<=m)(b:k<=j):Sh S v d m j:=⟨h.dat,h.lay,h.CL,F6 h.dep b,F6 h.len a⟩
def By.le{S:au}{v:List PV}{d:List PyData}{n k m j:Nat}(h:By S v d n k)(a:n<=m)(b:k<=j):By S v d m j:=⟨h.dat,h.lay,h.CL,F6 h.dep b,F6 h.len a⟩
theorem Sh.int{S:au}{i:Int}(h:i.natAbs.log2 < 1920):Sh S (.int i) (.int i) 1921 0:=
 ⟨.int i,by simp[PyData.canLay0],by simpa [PyData.showable]using h,by simp[PyData.depth],by rw[PyData.shown_int];exact PyProof.Rows.int_text_len_1921 h⟩
theorem By.nil{S:au}:By S [] [] 0 0:=⟨.nil,by simp[PyData.canLayAll0],by simp[PyData.showableAll],by simp[PyData.depthAll],by simp[PyData.shownAll,piled]⟩
theorem Sh.cons{S:au}{v:PV}{d:PyData}{n k:Nat}{vs:List PV}{ds:List PyData}{m:Nat}(a:Sh S v d n k)(b:By S vs ds m k):By S (v::vs) (d::ds) (n+2+m) k:=
 ⟨.cons a.dat b.dat,by simp[PyData.canLayAll0,a.lay,b.lay],by simp[PyData.showableAll,a.CL,b.CL],by simp only[PyData.depthAll];exact Nat.max_le.mpr ⟨a.dep,b.dep⟩,by
  rw[PyData.shownAll_cons,piled_cons]
  have:=a.len
  have:=b.len
  omega⟩
theorem Sh.tup{S:au}{n k:Nat}{vs:List PV}{ds:List PyData}(a:By S vs ds n k):Sh S (.tup vs) (.tuple ds) (n+3) (k+1):=
 ⟨.tup a.dat,by simp[PyData.canLay0,a.lay],by simp[PyData.showable,a.CL],by simp only[PyData.depth];exact Nat.succ_le_succ a.dep,by
  rw[PyData.shown_tuple,strLen_append,strLen_append]
  have e1:((("(":String):Str)).length=1:=rfl
  have e3:(((if ds.length == 1 then ",)" else ")":String):Str)).length<=2:=by split<;>decide
  have q:=a.len
  rcases ds with _|⟨d,ds⟩
  ·have:(Str.join ", " (PyData.shownAll [])).length=0:=by simp[PyData.shownAll];rfl
   omega
  ·have:=join_length_add (PyData.shownAll (d::ds)) (by simp[PyData.shownAll])
   omega⟩
theorem By.map{α:Type}{S:au}{n k:Nat}(f:α->PV)(g:α->PyData):∀{xs:List α},(∀x∈xs,Sh S (f x) (g x) n k)->By S (xs.map f) (xs.map g) (xs.length * (n+2)) k
 |[],_=>By.nil.le (Gv _) (Gv _)
 |x::r,h=>((h x (by simp)).cons (By.map f g fun y hy=>h y (by simp[hy]))).le (by rw[F7,Nat.succ_mul];omega) (FQ _)
def Sh.dict{S:au}{v:PV}{d:PyData}{n k:Nat}(h:Sh S v d n k):d.hasDict=false:=PyData.hasDict_of_canLay d h.lay
def uJ:(2:Nat) ^ 24<=sizeLine:=by decide
def k5{S:au}{vs:List PV}{d:PyData}{n k:Nat}{Q:bY}(h:Sh S (.tup vs) d n k)(hn:n<=2 ^ 24)(hk:k<=100)(q:Q (.str d.shown) S):jt [.tup vs] S Q:=by
 unfold jt
 exact⟨d,h.dat,h.CL,h.dict,F6 h.dep hk,F6 h.len (F6 hn uJ),q⟩
def By.Df{S:au}(k:Nat):By S [] [] 0 k:=.le .nil (FQ _) (Gv _)
noncomputable def mC(p:Str×Bd):PV:=.tup [.str p.1,p.2.pv]
noncomputable def sI(js:Vs)(ds:List (Str×Bd)):PV:=.tup [.tup (js.map PV.str),.tup (ds.map mC)]
structure wt (js:Vs) (us:Vs) (ds:List (Str×Bd)):Prop where
 jl:js.length<=16
 dl:ds.length<=16
 jw:∀z∈js,Bn z
 uw:∀z∈us,Bn z
 dw:∀p∈ds,Bn p.1
 gd:∀p∈ds,p.2.good js us
 dp:∀p∈ds,p.2.dep<=60
 sz:∀p∈ds,p.2.size<=60
def pL{α:Type}{xs:List α}{n:Nat}(h:n<=xs.length):zm xs none (some (n:Int))=xs.take n:=by
 unfold zm
 rw[HT.oj,HT.qT,List.drop_zero,Nat.min_eq_left h]
 rfl
def fL{x:PV}{n:Nat}{a b:List PV}(e:aV 0 n=a++x::b):x = .int a.length/\a.length < n:=by
 have h1:(aV 0 n)[a.length]?=some x:=by rw[e];simp
 unfold aV at h1
 rw[F4]at h1
 have hl:a.length < n:=by
  have:=Gy List.length e
  rw[cq,F3,F7]at this
  omega
 rw[IP hl]at h1
 simp at h1
 exact⟨h1.symm,hl⟩
def pM{α:Type}{xs:List α}{n:Nat}{v:α}(h:xs[n]?=some v):zp xs (n:Int)=some v:=bq h
noncomputable def heads:List Str:=["rest","pay","put","use","often","then","either","take"]
def nH:∀z∈heads,PyData.strOk z=true:=by decide +kernel
structure z_ (n:Nat) (js us:Vs) (ds:List (Str×Bd)):Prop extends wt js us ds where
 jn:js.Nodup
 dn:(ds.map Prod.fst).Nodup
 dq:∀p∈ds,p.2.dep<=n
inductive Ay (L:Nat):Nat->PV->Prop
 |int {n:Nat} (i:Int):Ay L n (.int i)
 |tup {n:Nat} {xs:List PV}:xs.length<=L->(∀x∈xs,Ay L n x)->Ay L (n+1) (.tup xs)
def Ay.mono{L M n m:Nat}{v:PV}(h:Ay L n v)(hL:L<=M):n<=m->Ay M m v:=by
 induction h generalizing m with
 |int i=>exact fun _=>.int i
 |@tup n xs hl _ ih=>
  intro hm
  cases m with
  |zero=>omega
  |succ m=>exact .tup (F6 hl hL) fun x hx=>ih x hx (by omega)
noncomputable def aK:Bd->PV->Bool
 | .Ai a,.tup gs=>gs.all fun g=>match g with | .tup [.int m,tr]=>decide (1<=m)&&aK a tr|_=>false
 | .yK a b,.tup [x,y]=>aK a x&&aK b y
 | .zY a b,.tup [.int i,y]=>if i=0 then aK a y else if i=1 then aK b y else false
 | .As _ _ a b,.tup [.int i,y]=>if i=0 then aK a y else if i=1 then aK b y else false
 | .rest,.tup []=>true
 | .pay _ _,.tup []=>true
 | .put _ _,.tup []=>true
 | .use _,.tup []=>true
 |_,_=>false
noncomputable def lZ(a:Bd):PV->Bool
 | .tup [.int m,tr]=>decide (1<=m)&&aK a tr
 |_=>false
def k6(a b:Bd)(x y:PV):aK (.yK a b) (.tup [x,y])=(aK a x&&aK b y):=rfl
def pN(a b:Bd)(i:Int)(y:PV):aK (.zY a b) (.tup [.int i,y])=if i=0 then aK a y else if i=1 then aK b y else false:=rfl
def pO(z:Str)(m:Int)(a b:Bd)(i:Int)(y:PV):aK (.As z m a b) (.tup [.int i,y])=if i=0 then aK a y else if i=1 then aK b y else false:=rfl
def iG(a:Bd)(gs:List PV):aK (.Ai a) (.tup gs)=gs.all (lZ a):=rfl
abbrev iH(w:aD):Prop:=∀{S:au} {a b:Bd} {hd:List PV} {i:Int} {y:PV} {Q:bY} {E:ci},(i=0\/i=1)->hd.length<=3->Q (if i=0 then a.pv else b.pv) S->w [.tup (hd++[a.pv,b.pv]),.tup [.int i,y]] S Q E
def AE:iH (aZ 2 ix):=by
 intro S a b hd i y Q E hi hl k
 unfold ix
 refine ft ?_
 rw[show ay 2 [PV.tup (hd++[a.pv,b.pv]),PV.tup [.int i,y]]=[some (.tup (hd++[a.pv,b.pv])),some (.tup [.int i,y])] from rfl]
 walk_at "y"
 have e:zp (hd++[a.pv,b.pv]) (-2+i)=some (if i=0 then a.pv else b.pv):=by
  unfold zp mf
  rcases hi with rfl|rfl
  ·rw[if_neg (by omega),if_pos (by simp;omega)]
   have:(-2+0+((hd++[a.pv,b.pv]).length:Int)).toNat=hd.length:=by simp;omega
   rw[this,if_pos rfl]
   show(hd++[a.pv,b.pv])[hd.length]?=some a.pv
   simp
  ·rw[if_neg (by omega),if_pos (by simp;omega)]
   have:(-2+1+((hd++[a.pv,b.pv]).length:Int)).toNat=hd.length+1:=by simp;omega
   rw[this,if_neg (by decide)]
   show(hd++[a.pv,b.pv])[hd.length+1]?=some b.pv
   simp
 rw[e]
 exact k
def l0{xs:List PV}(h:xs.length=2):∃x y,xs=[x,y]:=by
 match xs,h with
 |[x,y],_=>exact⟨x,y,rfl⟩
def kf{a b:Bd}{xs:List PV}(h:xs.length≠2):aK (.yK a b) (.tup xs)=false:=by
 match xs,h with
 |[],_=>rfl
 |[_],_=>rfl
 |[_,_],h=>exact absurd rfl h
 |_::_::_::_,_=>rfl
def kg{a b:Bd}{xs:List PV}(h:xs.length≠2):aK (.zY a b) (.tup xs)=false:=by
 match xs,h with
 |[],_=>rfl
 |[x],_=>cases x<;>rfl
 |[_,_],h=>exact absurd rfl h
 |x::_::_::_,_=>cases x<;>rfl
def kh{z:Str}{m:Int}{a b:Bd}{xs:List PV}(h:xs.length≠2):aK (.As z m a b) (.tup xs)=false:=by
 match xs,h with
 |[],_=>rfl
 |[x],_=>cases x<;>rfl
 |[_,_],h=>exact absurd rfl h
 |x::_::_::_,_=>cases x<;>rfl
def fM(t:Bd)(z:Str):aK t (.str z)=false:=by cases t<;>rfl
def fN(t:Bd)(i:Int):aK t (.int i)=false:=by cases t<;>rfl
noncomputable def Bd.plain:Bd->Bool
 | .rest=>true
 | .pay _ _=>true
 | .put _ _=>true
 | .use _=>true
 |_=>false
def l4{t:Bd}(h:t.plain=true)(xs:List PV):aK t (.tup xs)=decide (xs=[]):=by
 cases t<;>simp[Bd.plain]at h<;>(cases xs with
  |nil=>show true=_;simp
  |cons=>show false=_;simp)
noncomputable def Bd.hd:Bd->Str
 | .rest=>"rest" | .pay _ _=>"pay" | .put _ _=>"put" | .use _=>"use" | .Ai _=>"often" | .yK _ _=>"then" | .zY _ _=>"either" | .As _ _ _ _=>"take"
noncomputable def Bd.tl:Bd->List PV
 | .rest=>[] | .pay x y=>[.tup [.int x,.int y]] | .put z m=>[.str z,.int m] | .use z=>[.str z] | .Ai a=>[a.pv] | .yK a b=>[a.pv,b.pv] | .zY a b=>[a.pv,b.pv] | .As z m a b=>[.str z,.int m,a.pv,b.pv]
def Bd.BZ(t:Bd):t.pv = .tup (.str t.hd::t.tl):=by cases t<;>rfl
def Bd.Dg(t:Bd):PyData.strOk t.hd=true:=by cases t<;>exact nH _ (by simp[heads,Bd.hd])
def Bd.BA(t:Bd):t.hd=("then":Str)↔∃a b,t = .yK a b:=by cases t<;>simp[Bd.hd,aG]
def Bd.BB(t:Bd):t.hd=("often":Str)↔∃a,t = .Ai a:=by cases t<;>simp[Bd.hd,aG]
def mD{a b:PV}{hd:List PV}{i:Int}(hi:i=0\/i=1):zp (hd++[a,b]) (i - 2)=some (if i=0 then a else b):=by
 unfold zp mf
 rcases hi with rfl|rfl
 ·rw[if_neg (by omega),if_pos (by simp;omega)]
  have:(0 - 2+((hd++[a,b]).length:Int)).toNat=hd.length:=by simp;omega
  rw[this,if_pos rfl]
  show(hd++[a,b])[hd.length]?=some a
  simp
 ·rw[if_neg (by omega),if_pos (by simp;omega)]
  have:(1 - 2+((hd++[a,b]).length:Int)).toNat=hd.length+1:=by simp;omega
  rw[this,if_neg (by decide)]
  show(hd++[a,b])[hd.length+1]?=some b
  simp
def Ay.nil{L n:Nat}:Ay L (n+1) (.tup []):=.tup (Gv _) (by simp)
def Ay.two{L n:Nat}{a b:PV}(hL:2<=L)(ha:Ay L n a)(hb:Ay L n b):Ay L (n+1) (.tup [a,b]):=.tup hL fun x hx=>by
 simp only[F2,F9,GY]at hx
 rcases hx with rfl|rfl
 ·exact ha
 ·exact hb
mutual
noncomputable def nT:PV->Nat
 | .tup xs=>1+szPs xs
 |_=>1
noncomputable def szPs:List PV->Nat
 |[]=>0
 |x::r=>nT x+szPs r
end
theorem gP:∀xs ys,szPs (xs++ys)=szPs xs+szPs ys
 |[],ys=>by simp[szPs]
 |x::r,ys=>by rw[List.cons_append];simp only[szPs];rw[gP r ys];omega
abbrev fu(w:aD):Prop:=∀{S:au} {d l:Addr} {most many size:Nat} {Q:bY} {E:ci},yJ S d l->most<=8->1<=many->many<=4->1<=size->size<=60->
  (∀js ds S',z_ 6 js [] ds->1<=ds.length->ds.length<=many->js.length<=8->yJ S' d l->zd d l S S'->Q (sI js ds) S')->w [.ref d,.int most,.int many,.int size] S Q E
def nI{xw xd xb:aD}(zr:cR xw)(yG:bf xd)(Dh:dr xb):fu (aZ 9 (c_ xw xd xb)):=by
 intro S0 d l most many size Q E D0 hmo hm1 hm4 hs1 hs2 k
 unfold c_
 refine ft ?_
 rw[show ay 9 [PV.ref d,PV.int most,PV.int many,PV.int size]=[some (.ref d),some (.int most),some (.int many),some (.int size),none,none,none,none,none] from rfl]
 refine av fun N hN=>?_
 walk_at "x"
 refine zr D0 (by decide) (by decide) fun p ns S hl hnd hw0 _ BQ hpl hp D O0=>?_
 have hl8':ns.length=8:=hl
 have Fy:8<=ns.length:=by omega
 have Di:ns.length<=100:=by omega
 have hw:∀z∈ns,Bn z:=fun z hz=>(hw0 z hz).1
 refine hN _ _ ?_
 refine av fun N hN=>?_
 walk_at "x"
 refine yG (m:=most+1) D (by omega) (by omega) fun r S1 r0 r1 D1 O1=>?_
 obtain⟨j,rfl⟩:∃j:Nat,r=(j:Int):=⟨r.toNat,by omega⟩
 have hp1:=O1 _ _ hp BQ hpl
 rw[hp1]
 dsimp only
 rw[pL (by rw[FZ];omega),<-List.map_take]
 intro p2 hp2
 rw[ab]
 dsimp only
 have D2:yJ (aw S1 p2 (.lst ((ns.take j).map PV.str))) d l:=D1.new hp2
 have O2:zd d l S (aw S1 p2 (.lst ((ns.take j).map PV.str))):=O1.trans (.new hp2)
 have hp2':=zd.new (o:=.lst ((ns.take j).map PV.str)) hp2 _ _ hp1 BQ hpl
 generalize aw S1 p2 (.lst ((ns.take j).map PV.str))=S2 at D2 O2 hp2'
 refine hN _ _ (av fun N hN=>?_)
 walk_at "x"
 intro p3 hp3
 have EV:=D2.free hp3
 refine yG (D2.new hp3) (by decide) (by decide) fun f S3 f0 f1 D3 O3=>?_
 have e3:=O3 _ _ (ab (S:=S2) (o:=.lst [.int 0,.int 4])) EV.1 EV.2
 have El:=O3 _ _ (zd.new hp3 _ _ hp2' BQ hpl) BQ hpl
 have Fz:zd d l S S3:=O2.trans ((zd.new hp3).trans O3)
 simp only[e3]
 obtain⟨v,hv,EW⟩:=cA (xs:=[PV.int 0,.int 4]) f0 (by simpa using f1)
 rw[hv]
 obtain⟨g,rfl,hg⟩:∃g:Nat,v = .int g/\g<=4:=by
  simp only[F2,F9,GY]at EW
  rcases EW with rfl|rfl
  ·exact⟨0,rfl,by omega⟩
  ·exact⟨4,rfl,by omega⟩
 refine hN _ _ (av fun N hN=>?_)
 walk_at "x"
 refine yG (m:=many) D3 (by omega) (by omega) fun r4 S4 a0 a1 D4 O4=>?_
 obtain⟨mm,em⟩:∃mm:Nat,1+r4=(mm:Int):=⟨(1+r4).toNat,by omega⟩
 dsimp only
 rw[em]
 have Em:=O4 _ _ El BQ hpl
 refine hN _ _ (av fun N hN=>?_)
 walk_at "x"
 refine⟨by omega,by omega,?_⟩
 rw[GO]
 have hjl:(ns.take j).length<=8:=by rw[GS];omega
 refine iB (fun done ys S'=>∃ds:List (Str×Bd),ys=ds.map mC/\ds.length=done.length/\ds.map Prod.fst=(ns.drop g).take done.length/\done.length<=mm/\(∀q∈ds,q.2.good (ns.take j) []/\q.2.dep<=6/\q.2.size<=60)/\yJ S' d l/\zd d l S4 S') ⟨[],rfl,rfl,rfl,Gv _,by simp,D4,.refl⟩ ?_ ?_ ?_
 ·rintro done ys S' ⟨ds,rfl,e,_,hd,_⟩
  exact⟨trivial,cj (by rw[FZ,e];omega)⟩
 ·rintro done x rest ys S' K e ⟨ds,rfl,e2,e3,hd,hc,D',O'⟩ hK
  obtain⟨rfl,hi⟩:=fL e
  walk_at "x"
  try simp only[b6,HH]
  have hp':=O' _ _ Em BQ hpl
  simp only[hp']
  have hlt:g+done.length < ns.length:=by omega
  have hat:zp (ns.map PV.str) ((g:Int)+(done.length:Int))=some (.str ns[g+done.length]):=by
   have:((g:Int)+(done.length:Int))=((g+done.length:Nat):Int):=by omega
   rw[this]
   exact pM (by rw[F4,GF hlt];rfl)
  rw[hat]
  dsimp only
  refine⟨ux (by omega) (by omega),Dh D' (by omega) (by omega) (by omega) fun t S5 tg td tz tz2 _ D5 En=>?_⟩
  refine hK _ _ ⟨ds++[(ns[g+done.length],t)],by simp[mC],by simp[e2],?_,by rw[F3];exact hi,fun y hy=>?_,D5,O'.trans En⟩
  ·rw[II,e3,F3,HA,List.take_succ,HU,GF hlt]
   rfl
  ·rcases Gh.mp hy with hy|hy
   ·exact hc y hy
   ·rw[Gi.mp hy];exact⟨tg,td,tz⟩
 rintro ys S5 ⟨ds,rfl,e,ef,_,hds,D5,O5⟩
 rw[cq]at e ef
 intro p6 Dj
 refine hN _ _ ?_
 walk_at "x"
 rw[ab]
 dsimp only
 have sub:∀q∈ds,q.1∈ns:=fun q hq=>by
  have:q.1∈ds.map Prod.fst:=Gg.mpr ⟨q,hq,rfl⟩
  rw[ef]at this
  exact HF (GZ this)
 refine k (ns.take j) ds _ ⟨⟨by omega,by omega,fun z hz=>hw z (GZ hz),by simp,fun q hq=>hw _ (sub q hq),fun q hq=>(hds q hq).1,fun q hq=>by have:=(hds q hq).2.1;omega,fun q hq=>(hds q hq).2.2⟩,hnd.sublist (HB _ _),by rw[ef];exact hnd.sublist ((HB _ _).trans (List.drop_sublist _ _)),fun q hq=>(hds q hq).2.1⟩ (by omega) (by omega) hjl (D5.new Dj) (O0.trans (Fz.trans (O4.trans (O5.trans (.new Dj)))))
def wu:∀z∈(["either","take"]:Vs),PyData.strOk z=true:=by decide +kernel
mutual
/-- no great whole number within -/
noncomputable def b9(b:Nat):PV->Bool
 | .int i=>decide (i.natAbs<=b)
 | .tup xs=>intBs b xs
 |_=>true
noncomputable def intBs(b:Nat):List PV->Bool
 |[]=>true
 |x::r=>b9 b x&&intBs b r
end
theorem intBs_iff{b:Nat}:∀{xs:List PV},intBs b xs=true↔∀x∈xs,b9 b x=true
 |[]=>by simp[intBs]
 |x::r=>by simp[intBs,intBs_iff (xs:=r)]
def iI{b:Nat}{i:Int}(h:i.natAbs<=b):b9 b (.int i)=true:=by simp[b9,h]
def k7{b:Nat}{xs:List PV}(h:∀x∈xs,b9 b x=true):b9 b (.tup xs)=true:=by simp only[b9];exact intBs_iff.mpr h
def aP{b:Nat}{xs:List PV}(h:b9 b (.tup xs)=true):∀x∈xs,b9 b x=true:=by simp only[b9]at h;exact intBs_iff.mp h
def fO{b:Nat}{x y:PV}(hx:b9 b x=true)(hy:b9 b y=true):b9 b (.tup [x,y])=true:=by simp[b9,intBs,hx,hy]
def uK{a b:Bd}{v w:PV}{l l1 l2:Int}(h1:l1<=l)(h2:l2<=l1)(z1:nT v<=3 * a.size * (1+(l - l1).toNat))(z2:nT w<=3 * b.size * (1+(l1 - l2).toNat)):nT (.tup [v,w])<=3 * (Bd.yK a b).size * (1+(l - l2).toNat):=by
 simp only[nT,szPs,Bd.size]
 have e:(l - l2).toNat=(l - l1).toNat+(l1 - l2).toNat:=by omega
 rw[e]
 generalize (l - l1).toNat=u at *
 generalize (l1 - l2).toNat=w at *
 have p1:3 * a.size * (1+u)<=3 * a.size * (1+(u+w)):=IQ _ (by omega)
 have p2:3 * b.size * (1+w)<=3 * b.size * (1+(u+w)):=IQ _ (by omega)
 have p3:3 * (a.size+b.size+1) * (1+(u+w))=3 * a.size * (1+(u+w))+3 * b.size * (1+(u+w))+3 * (1+(u+w)):=by
  rw[show 3 * (a.size+b.size+1)=3 * a.size+3 * b.size+3 by omega,IB,IB]
 omega
def uL{a b c:Bd}{n u:Nat}{v:PV}{i:Int}(hs:n=a.size+b.size+1)(hc:c.size<=a.size+b.size)(z:nT v<=3 * c.size * (1+u)):nT (.tup [.int i,v])<=3 * n * (1+u):=by
 simp only[nT,szPs]
 have p1:3 * c.size * (1+u)<=3 * (a.size+b.size) * (1+u):=Nat.mul_le_mul_right _ (IQ _ hc)
 have p3:3 * n * (1+u)=3 * (a.size+b.size) * (1+u)+3 * (1+u):=by
  rw[hs,show 3 * (a.size+b.size+1)=3 * (a.size+b.size)+3 by omega,IB]
 omega
abbrev eA(n:Nat)(w:aD):Prop:=∀{S:au} {d l x:Addr} {t:Bd} {left wide:Int} {Q:bY} {E:ci},yJ S d l->S x=some (.lst [.int left])->x≠d->x≠l->0<=left->1<=wide->wide<=2 ^ 60->t.dep<=n->
  (∀v S' left',aK t v=true->Ay 3 (2 * t.dep) v->b9 (2 ^ 60) v=true->0<=left'->left'<=left->nT v<=3 * t.size * (1+(left - left').toNat)->yJ S' d l->S' x=some (.lst [.int left'])->Ah d l x S S'->Q v S')->w [.ref d,t.pv,.ref x,.int wide] S Q E
def rZ{xd s0:aD}(yG:bf xd)(n:Nat)(ih:eA n s0):eA (n+1) (aZ 9 (b8 xd s0)):=by
 intro S d l x t left wide Q E D hx hxd A9 h0 hw1 CM hd k
 unfold b8
 refine ft ?_
 rw[show ay 9 [PV.ref d,t.pv,PV.ref x,PV.int wide]=[some (.ref d),some t.pv,some (.ref x),some (.int wide),none,none,none,none,none] from rfl]
 refine av fun N hN=>?_
 simp only[bW,a_,ai,v3,lk,c3]
 rw[Bd.BZ]
 simp only[aj,iC,bJ,F5,FT]
 by_cases ht:t.hd=("then":Str)
 ·rw[if_pos ht]
  obtain⟨a,b,rfl⟩:=(Bd.BA t).mp ht
  simp only[Bd.dep]at hd
  walk_at "y"
  simp only[Bd.tl,eU,nS]
  refine ih (t:=a) D hx hxd A9 h0 hw1 CM (by omega) fun v1 S1 l1 i1 t1 n1 q0 q1 z1 D1 x1 O1=>?_
  refine ih (t:=b) D1 x1 hxd A9 q0 hw1 CM (by omega) fun v2 S2 l2 i2 t2 n2 r0 r1 z2 D2 x2 O2=>?_
  exact k (.tup [v1,v2]) S2 l2 (by rw[k6,i1,i2];rfl) ((Ay.two (by decide) (t1.mono (FQ _) (show _<=2 * max a.dep b.dep by omega)) (t2.mono (FQ _) (by omega))).mono (FQ _) (by simp only[Bd.dep];omega)) (fO n1 n2) r0 (by omega) (uK q1 r1 z1 z2) D2 x2 (O1.trans O2)
 rw[if_neg ht]
 refine hN _ _ (av fun N hN=>?_)
 simp only[bW,lN,a_,ai,v3,lk,c3]
 simp only[aj,iC,bJ,F5,FT]
 have two:∀(hd2:List PV) (a b:Bd) (N':bV->au->Prop),.str t.hd::t.tl=hd2++[a.pv,b.pv]->a.dep<=n->b.dep<=n->(t.dep=max a.dep b.dep+1)->(t.size=a.size+b.size+1)->(∀(i:Int) y,aK t (.tup [.int i,y])=if i=0 then aK a y else if i=1 then aK b y else false)->
   ah (az 5 (ae xd [v3 0,c3 (.int 2)])) (aE (aC [v3 5,ae s0 [v3 0,ai aj (v3 1) (ai bu (v3 5) (c3 (.int 2))),v3 2,v3 3]])) { nx:=N',rt:=Q,ex:=fc } [some (.ref d),some (.tup (.str t.hd::t.tl)),some (.ref x),some (.int wide),none,none,none,none,none] S:=by
  intro hd2 a b N' e hda hdb B1 hsz EX
  rw[e]
  refine av fun N2 AY=>?_
  walk_at "x"
  refine yG D (by decide) (by decide) fun i S1 i0 i1 D1 O1=>?_
  refine AY _ _ ?_
  have hi:i=0\/i=1:=by omega
  walk_at "x"
  rw[mD hi]
  have go:∀c:Bd,c.dep<=n->c.dep<=max a.dep b.dep->c.size<=a.size+b.size->(∀y,aK t (.tup [.int i,y])=aK c y)->s0 [.ref d,c.pv,.ref x,.int wide] S1 (fun v S2=>Q (.tup [.int i,v]) S2) fc:=fun c hc hc2 hc3 ec=>by
   refine ih (t:=c) D1 (O1 _ _ hx hxd A9) hxd A9 h0 hw1 CM hc fun v1 S2 l1 j1 t1 n1 q0 q1 z1 D2 x1 O2=>?_
   exact k (.tup [.int i,v1]) S2 l1 (by rw[ec,j1]) ((Ay.two (by decide) (.int i) t1).mono (FQ _) (by rw[B1];omega)) (fO (iI (by rcases hi with rfl|rfl<;>decide)) n1) q0 q1 (uL hsz hc3 z1) D2 x1 (O1.x.trans O2)
  rcases hi with rfl|rfl
  ·exact go a hda (Nat.le_max_left _ _) (by omega) fun y=>by rw[EX];rfl
  ·exact go b hdb (Nat.le_max_right _ _) (by omega) fun y=>by rw[EX];rfl
 by_cases he:t.hd=("either":Str)
 ·rw[if_pos he,if_pos trivial]
  cases t with
  |zY a b=>simp only[Bd.dep]at hd;exact two [.str "either"] a b _ rfl (by omega) (by omega) rfl rfl (fun _ _=>rfl)
  |_=>simp[Bd.hd,aG]at he
 rw[if_neg he]
 by_cases hk:t.hd=("take":Str)
 ·rw[if_pos hk]
  cases t with
  |As z mm a b=>simp only[Bd.dep]at hd;exact two [.str "take",.str z,.int mm] a b _ rfl (by omega) (by omega) rfl rfl (fun _ _=>rfl)
  |_=>simp[Bd.hd,aG]at hk
 rw[if_neg hk]
 refine hN _ _ (av fun N hN=>?_)
 walk_at "x"
 intro pf hpf
 have AZ:=D.free hpf
 have hpx:pf≠x:=fun h=>by rw[h,hx]at hpf;cases hpf
 have D1:yJ (aw S pf (.lst [])) d l:=D.new hpf
 have x1:(aw S pf (.lst [])) x=some (.lst [.int left]):=by rw[al hpx.symm];exact hx
 have O1:Ah d l x S (aw S pf (.lst [])):=(zd.new hpf).x
 have f1:(aw S pf (.lst [])) pf=some (.lst []):=ab
 generalize aw S pf (.lst [])=S1 at D1 x1 O1 f1
 refine hN _ _ (av fun N hN=>?_)
 simp only[dI,dH,ai,ae,bZ,ar,v3,lk,c3]
 refine yG D1 (by decide) (by decide) fun r S2 r0 r1 D2 O2=>?_
 have x2:=O2 _ _ x1 hxd A9
 have f2:=O2 _ _ f1 AZ.1 AZ.2
 have EY:=O1.trans (O2.x (x:=x))
 simp only[aj,iC,bJ,gL,b5,F5,FT]
 by_cases ho:t.hd=("often":Str)
 ·rw[if_pos ho]
  refine⟨pF (by omega) (by omega),by omega,by omega,?_⟩
  obtain⟨a,rfl⟩:=(Bd.BB t).mp ho
  simp only[Bd.dep]at hd
  obtain⟨rr,er⟩:∃rr:Nat,r * 1=(rr:Int):=⟨r.toNat,by omega⟩
  rw[er,GO]
  refine cz (fun done σ S'=>∃(vs:List PV) (l2:Int) (x6 x7:Option PV),σ=[some (.ref d),some (Bd.Ai a).pv,some (.ref x),some (.int wide),none,none,some (.ref pf),x6,x7]/\vs.length<=done.length/\done.length<=rr/\(∀v∈vs,lZ a v=true/\Ay 3 (2 * a.dep+1) v/\b9 (2 ^ 60) v=true)/\0<=l2/\l2<=left/\szPs vs<=(3 * a.size+2) * (left - l2).toNat/\yJ S' d l/\S' x=some (.lst [.int l2])/\S' pf=some (.lst vs)/\Ah d l x S S') ⟨[],left,_,_,rfl,FQ _,Gv _,by simp,h0,GK _,by simp[szPs],D2,x2,f2,EY⟩ (fun _ _ _ _=>trivial) ?_ ?_
  ·rintro done y rest σ S3 K e ⟨vs,l2,x6,x7,rfl,hv,hdl,hvs,q0,q1,hsz,D3,x3,f3,O3⟩ hK
   obtain⟨rfl,hi⟩:=fL e
   simp only[Tg.put,List.set_cons_succ,List.set_cons_zero]
   simp only[bW,a_,ai,v3,lk,c3,aj,x3,iC,nw,dS,FT]
   by_cases hl2:0 < l2
   ·rw[if_pos hl2]
    refine av fun N2 AY=>?_
    walk_at "x"
    simp only[x3,iC,mf]
    have e1:(if (0:Int)<=0 then if (0:Int) < (([PV.int l2]:List PV).length:Nat) then some (0:Int).toNat else none else if -((([PV.int l2]:List PV).length:Nat):Int)<=0 then some (0+((([PV.int l2]:List PV).length:Nat):Int)).toNat else none)=some 0:=rfl
    rw[e1]
    dsimp only
    have D4:yJ (aw S3 x (.lst [.int (l2 - 1)])) d l:=D3.upd hxd A9
    have x4:(aw S3 x (.lst [.int (l2 - 1)])) x=some (.lst [.int (l2 - 1)]):=ab
    have f4:(aw S3 x (.lst [.int (l2 - 1)])) pf=some (.lst vs):=by rw[al hpx];exact f3
    have O4:Ah d l x S (aw S3 x (.lst [.int (l2 - 1)])):=O3.trans .upd
    refine AY _ _ ?_
    show ah _ _ _ _ (aw S3 x (.lst [.int (l2 - 1)]))
    generalize aw S3 x (.lst [.int (l2 - 1)])=S4 at D4 x4 f4 O4
    refine av fun N3 Dx=>?_
    walk_at "x"
    intro pl hpl
    have Dk:=D4.free hpl
    have Eo:pf≠pl:=fun h=>by rw[h,hpl]at f4;cases f4
    have FA:x≠pl:=fun h=>by rw[h,hpl]at x4;cases x4
    refine yG (D4.new hpl) (by decide) (by decide) fun g S5 g0 g1 D5 O5=>?_
    have p5:=O5 _ _ (ab (S:=S4) (o:=.lst [.int 3,.int wide])) Dk.1 Dk.2
    have x5:=O5 _ _ (by rw[al FA];exact x4) hxd A9
    have f5:=O5 _ _ (by rw[al Eo];exact f4) AZ.1 AZ.2
    have Dy:Ah d l x S S5:=O4.trans ((zd.new hpl).trans O5).x
    simp only[p5]
    obtain⟨w,hw,Cj⟩:=cA (xs:=[PV.int 3,.int wide]) g0 (by simpa using g1)
    rw[hw]
    obtain⟨ww,rfl,FB,FC⟩:∃ww,w = .int ww/\1<=ww/\ww<=2 ^ 60:=by
     simp only[F2,F9,GY]at Cj
     rcases Cj with rfl|rfl
     ·exact⟨3,rfl,by omega,by omega⟩
     ·exact⟨wide,rfl,hw1,CM⟩
    dsimp only
    refine yG D5 (by omega) (by omega) fun m S6 m0 m1 D6 O6=>?_
    have FD:=O6 _ _ x5 hxd A9
    have f6:=O6 _ _ f5 AZ.1 AZ.2
    have FE:=Dy.trans (O6.x (x:=x))
    refine Dx _ _ ?_
    walk_at "x"
    unfold Bd.pv
    simp only[eU,f6,true_and]
    refine ih (t:=a) D6 FD hxd A9 (by omega) hw1 CM (by omega) fun v S7 l7 i7 t7 n7 a0 a1 z7 D7 FF O7=>?_
    have f7:=O7 _ _ f6 AZ.1 AZ.2 hpx
    simp only[f7]
    refine⟨F1 (show _ < 1000 by omega) (by decide),?_⟩
    refine hK _ _ ⟨vs++[.tup [.int (1+m),v]],l7,_,_,rfl,by simp;omega,by rw[F3];exact hi,fun w hw=>?_,a0,by omega,?_,D7.upd AZ.1 AZ.2,by rw[al hpx.symm];exact FF,ab,?_⟩
    ·rcases Gh.mp hw with hw|hw
     ·exact hvs w hw
     ·rw[Gi.mp hw]
      exact⟨by simp[lZ,i7];omega,Ay.two (by decide) (.int _) t7,fO (iI (by omega)) n7⟩
    ·rw[gP]
     simp only[nT,szPs]
     have e:(left - l7).toNat=(left - l2).toNat+(1+(l2 - 1 - l7).toNat):=by omega
     rw[e]
     generalize (left - l2).toNat=u at *
     generalize (l2 - 1 - l7).toNat=w at *
     have p1:(3 * a.size+2) * (u+(1+w))=(3 * a.size+2) * u+(3 * a.size * (1+w)+2 * (1+w)):=by rw[Nat.mul_add,IB (3 * a.size) 2 (1+w)]
     omega
    ·intro b o hb h1 h2 h3
     have Ep:b≠pf:=fun h=>by rw[h,hpf]at hb;cases hb
     rw[al Ep]
     exact O7 _ _ (FE _ _ hb h1 h2 h3) h1 h2 h3
   ·rw[if_neg hl2]
    exact hK _ _ ⟨vs,l2,_,_,rfl,by simp;omega,by rw[F3];exact hi,hvs,q0,q1,hsz,D3,x3,f3,O3⟩
  ·rintro σ S3 ⟨vs,l2,x6,x7,rfl,hv,hdl,hvs,q0,q1,hsz,D3,x3,f3,O3⟩
   refine hN _ _ ?_
   walk_at "x"
   simp only[f3]
   refine k (.tup vs) S3 l2 ?_ (.tup (by omega) fun v hv=>(hvs v hv).2.1) (k7 fun v hv=>(hvs v hv).2.2) q0 q1 ?_ D3 x3 O3
   case refine_2=>
    simp only[nT,Bd.size]
    generalize (left - l2).toNat=u at *
    have p1:3 * (a.size+1) * (1+u)=3 * a.size * u+3 * a.size+3 * u+3:=by rw[show 3 * (a.size+1)=3 * a.size+3 by omega,IB,Nat.mul_add (3 * a.size)];omega
    have p2:(3 * a.size+2) * u=3 * a.size * u+2 * u:=IB _ _ _
    omega
   rw[iG,Gz]
   exact fun v hv=>(hvs v hv).1
 ·rw[if_neg ho]
  refine⟨pF (by omega) (by omega),by omega,by omega,?_⟩
  rw[IU]
  refine⟨trivial,?_⟩
  refine hN _ _ ?_
  walk_at "x"
  simp only[f2]
  have hp:t.plain=true:=by
   cases t with
   |Ai a=>exact absurd rfl ho
   |yK=>exact absurd rfl ht
   |zY=>exact absurd rfl he
   |As=>exact absurd rfl hk
   |_=>rfl
  refine k (.tup []) S2 left (by rw[l4 hp];rfl) (Ay.nil.mono (FQ _) (show 0+1<=_ by have:=t.zA;omega)) rfl h0 (GK _) (by simp[nT,szPs];have:=t.zA;have:=t.zh;omega) D2 x2 EY
abbrev ki(w:aD):Prop:=∀{S:au} {d l:Addr} {Q:bY} {E:ci},yJ S d l->(∀js ds S',z_ 6 js [] ds->1<=ds.length->ds.length<=4->js.length<=8->yJ S' d l->zd d l S S'->Q (sI js ds) S')->w [.ref d] S Q E
def BC{xd xh xw xb:aD}(yG:bf xd)(Dl:fu xh)(zr:cR xw)(n:Nat)(hn6:6<=n)(Ax:eu n xb):ki (aZ 4 (bQ xd xh xw xb)):=by
 intro Sa d l Q E Da k
 unfold bQ
 refine ft ?_
 rw[show ay 4 [PV.ref d]=[some (.ref d),none,none,none] from rfl]
 refine av fun N hN=>?_
 walk_at "x"
 refine yG Da (by decide) (by decide) fun r9 S0 _ _ D0 Oa=>?_
 simp only[F5,FT]
 split
 ·exact Dl (most:=4) (many:=4) (size:=20) D0 (by decide) (by decide) (by decide) (by decide) (by decide) fun js ds S' a b c e f g=>k js ds S' a b c e f (Oa.trans g)
 refine hN _ _ (av fun N hN=>?_)
 walk_at "x"
 refine zr D0 (by decide) (by decide) fun p ns S hl hnd hw0 _ BQ hpl hp D O0=>?_
 have hl8':ns.length=8:=hl
 have Fy:8<=ns.length:=by omega
 have Di:ns.length<=100:=by omega
 have hw:∀z∈ns,Bn z:=fun z hz=>(hw0 z hz).1
 refine hN _ _ ?_
 refine av fun N hN=>?_
 walk_at "x"
 refine yG (m:=5) D (by omega) (by omega) fun r S1 r0 r1 D1 O1=>?_
 obtain⟨j,rfl⟩:∃j:Nat,r=(j:Int):=⟨r.toNat,by omega⟩
 have hp1:=O1 _ _ hp BQ hpl
 rw[hp1]
 dsimp only
 rw[pL (by rw[FZ];omega),<-List.map_take]
 intro p2 hp2
 rw[ab]
 dsimp only
 have D2:yJ (aw S1 p2 (.lst ((ns.take j).map PV.str))) d l:=D1.new hp2
 have O2:zd d l S (aw S1 p2 (.lst ((ns.take j).map PV.str))):=O1.trans (.new hp2)
 have hp2':=zd.new (o:=.lst ((ns.take j).map PV.str)) hp2 _ _ hp1 BQ hpl
 generalize aw S1 p2 (.lst ((ns.take j).map PV.str))=S2 at D2 O2 hp2'
 refine hN _ _ (av fun N hN=>?_)
 walk_at "x"
 refine yG (m:=4) D2 (by omega) (by omega) fun r4 S4 a0 a1 D4 O4=>?_
 obtain⟨mm,em⟩:∃mm:Nat,1+r4=(mm:Int):=⟨(1+r4).toNat,by omega⟩
 dsimp only
 rw[em]
 have Em:=O4 _ _ hp2' BQ hpl
 have hg:(4:Nat)<=4:=FQ _
 refine hN _ _ ?_
 walk_at "x"
 refine⟨by omega,by omega,?_⟩
 rw[GO]
 have hjl:(ns.take j).length<=8:=by rw[GS];omega
 refine iB (fun done ys S'=>∃ds:List (Str×Bd),ys=ds.map mC/\ds.length=done.length/\ds.map Prod.fst=(ns.drop 4).take done.length/\done.length<=mm/\(∀q∈ds,q.2.good (ns.take j) []/\q.2.dep<=6/\q.2.size<=60)/\yJ S' d l/\zd d l S4 S') ⟨[],rfl,rfl,rfl,Gv _,by simp,D4,.refl⟩ ?_ ?_ ?_
 ·rintro done ys S' ⟨ds,rfl,e,_,hd,_⟩
  exact⟨trivial,cj (by rw[FZ,e];omega)⟩
 ·rintro done x rest ys S' K e ⟨ds,rfl,e2,e3,hd,hc,D',O'⟩ hK
  obtain⟨rfl,hi⟩:=fL e
  walk_at "x"
  try simp only[b6,HH]
  have hp':=O' _ _ Em BQ hpl
  simp only[hp']
  have hlt:4+done.length < ns.length:=by omega
  have hat:zp (ns.map PV.str) (4+(done.length:Int))=some (.str ns[4+done.length]):=by
   have:(4+(done.length:Int))=((4+done.length:Nat):Int):=by omega
   rw[this]
   exact pM (by rw[F4,GF hlt];rfl)
  rw[hat]
  dsimp only
  intro px hx
  have dx:=D'.free hx
  refine Ax (D'.new hx) ab dx.1 dx.2 (by omega) (by omega) (by omega) (by decide) (by omega) fun t S5 l1 tg td q0 q1 D5 hx5 O5=>?_
  have En:zd d l S' S5:=fun a o ha h1 h2=>O5 a o (by rw[al (fun e=>by rw[e,hx]at ha;cases ha)];exact ha) h1 h2 (fun e=>by rw[e,hx]at ha;cases ha)
  refine hK _ _ ⟨ds++[(ns[4+done.length],t)],by simp[mC],by simp[e2],?_,by rw[F3];exact hi,fun y hy=>?_,D5,O'.trans En⟩
  ·rw[II,e3,F3,HA,List.take_succ,HU,GF hlt]
   rfl
  ·rcases Gh.mp hy with hy|hy
   ·exact hc y hy
   ·rw[Gi.mp hy];exact⟨tg,show t.dep<=6 by omega,show t.size<=60 by omega⟩
 rintro ys S5 ⟨ds,rfl,e,ef,_,hds,D5,O5⟩
 rw[cq]at e ef
 intro p6 Dj
 rw[ab]
 dsimp only
 have sub:∀q∈ds,q.1∈ns:=fun q hq=>by
  have:q.1∈ds.map Prod.fst:=Gg.mpr ⟨q,hq,rfl⟩
  rw[ef]at this
  exact HF (GZ this)
 refine k (ns.take j) ds _ ⟨⟨by omega,by omega,fun z hz=>hw z (GZ hz),by simp,fun q hq=>hw _ (sub q hq),fun q hq=>(hds q hq).1,fun q hq=>by have:=(hds q hq).2.1;omega,fun q hq=>(hds q hq).2.2⟩,hnd.sublist (HB _ _),by rw[ef];exact hnd.sublist ((HB _ _).trans (List.drop_sublist _ _)),fun q hq=>(hds q hq).2.1⟩ (by omega) (by omega) hjl (D5.new Dj) (Oa.trans (O0.trans (O2.trans (O4.trans (O5.trans (.new Dj))))))
noncomputable def cf(n:Int):PV:=.tup [.int (M3.bc n 2520),.int (M3.aO n 2520)]
def g_:(.tup [.int 0,.int 1]:PV)=cf 0:=by
 have h1:M3.bc 0 2520=0:=by decide +kernel
 have h2:M3.aO 0 2520=1:=by decide +kernel
 unfold cf
 rw[h1,h2]
def l5(n:Int):M3.wL (M3.bc n 2520) (M3.aO n 2520):=M3.jW (by decide)
def eC(n:Int):M3.bc n 2520 * 2520=n * M3.aO n 2520:=M3.nb (by decide)
def cI(n:Int):0 < M3.aO n 2520/\M3.aO n 2520<=2520:=by
 refine⟨(l5 n).pos,?_⟩
 unfold M3.aO
 rw[if_neg (by decide)]
 exact Jb _ (by decide)
def eQ{n:Int}(h:0<=n):0<=M3.bc n 2520:=by
 unfold M3.bc
 rw[if_neg (by decide)]
 exact HQ h (Int.natCast_nonneg _)
def wv{n B:Int}(h0:0<=n)(h:n<=B):M3.bc n 2520<=B:=by
 unfold M3.bc
 rw[if_neg (by decide)]
 exact Int.le_trans (Jb _ h0) h
def mE{x y:Int}(h:nB x y):(.tup [.int x,.int y]:PV)=cf (x * (2520 / y)):=by
 have hy:y=1\/y=2\/y=3\/y=4\/y=5\/y=6\/y=7\/y=8\/y=9:=by have:=h.low.pos;have:=h.y1;omega
 have e:2520 / y * y=2520:=by rcases hy with rfl|rfl|rfl|rfl|rfl|rfl|rfl|rfl|rfl<;>decide
 have u:=M3.fi h.low (x:=x * (2520 / y)) (y:=2520) (by decide) (by rw[I9,e])
 unfold cf
 rw[u.1,u.2]
def mF(n m:Int):(.tup [.int (M3.bc (M3.bc n 2520 * M3.aO m 2520+M3.bc m 2520 * M3.aO n 2520) (M3.aO n 2520 * M3.aO m 2520)),.int (M3.aO (M3.bc n 2520 * M3.aO m 2520+M3.bc m 2520 * M3.aO n 2520) (M3.aO n 2520 * M3.aO m 2520))]:PV)=cf (n+m):=by
 have u:=M3.fi (l5 (n+m)) (x:=M3.bc n 2520 * M3.aO m 2520+M3.bc m 2520 * M3.aO n 2520) (y:=M3.aO n 2520 * M3.aO m 2520) (Int.mul_pos (cI n).1 (cI m).1) (by
  have h1:=eC n;have h2:=eC m;have h3:=eC (n+m)
  generalize M3.bc n 2520=a at *;generalize M3.aO n 2520=b at *;generalize M3.bc m 2520=c at *;generalize M3.aO m 2520=d at *
  generalize M3.bc (n+m) 2520=L at *;generalize M3.aO (n+m) 2520=B at *
  grind)
 unfold cf
 rw[u.1,u.2]
def pP(n m:Int):(.tup [.int (M3.bc (M3.bc n 2520 * m) (M3.aO n 2520 * 1)),.int (M3.aO (M3.bc n 2520 * m) (M3.aO n 2520 * 1))]:PV)=cf (n * m):=by
 have u:=M3.fi (l5 (n * m)) (x:=M3.bc n 2520 * m) (y:=M3.aO n 2520 * 1) (by rw[HW];exact(cI n).1) (by
  have h1:=eC n;have h3:=eC (n * m)
  generalize M3.bc n 2520=a at *;generalize M3.aO n 2520=b at *
  generalize M3.bc (n * m) 2520=L at *;generalize M3.aO (n * m) 2520=B at *
  grind)
 unfold cf
 rw[u.1,u.2]
abbrev Ty:=Int×List (Int×Int)
noncomputable def jn(p q:Int×Int):Int×Int:=(p.1+q.1,if q.2 - p.1 > p.2 then q.2 - p.1 else p.2)
noncomputable def Ty.join(t u:Ty):Ty:=(t.1+u.1,List.zipWith jn t.2 u.2)
noncomputable def ag(m:Int)(p:Int×Int):Int×Int:=(p.1 * m,p.2+(if -p.1 * (m - 1) > 0 then -p.1 * (m - 1) else 0))
noncomputable def Ty.again(m:Int)(t:Ty):Ty:=(t.1 * m,t.2.map (ag m))
noncomputable def zl(js:Vs):List (Int×Int):=js.map fun _=>(0,0)
noncomputable def z0(js:Vs):Ty:=(0,zl js)
def iJ(e m:Int)(hm:1<=m):-e * (m - 1)=e - e * m/\(0<=e->e<=e * m)/\(e < 0->e * m<=e):=by
 refine⟨by grind,fun h=>?_,fun h=>?_⟩
 ·have:=GC hm h;omega
 ·have:=GC hm (show 0 <= -e by omega);rw[IA,IA]at this;omega
def r6{a b:Int}(p:Int×Int)(ha:1<=a)(hb:1<=b):jn (ag a p) (ag b p)=ag (a+b) p:=by
 obtain⟨e,d⟩:=p
 obtain⟨a1,a2,a3⟩:=iJ e a ha
 obtain⟨b1,b2,b3⟩:=iJ e b hb
 obtain⟨c1,c2,c3⟩:=iJ e (a+b) (by omega)
 have c4:e * (a+b)=e * a+e * b:=Int.mul_add _ _ _
 simp only[jn,ag,a1,b1,c1,c4]
 generalize e * a=x at *
 generalize e * b=y at *
 refine Ig rfl ?_
 dsimp only
 by_cases he:0<=e
 ·have:=a2 he;have:=b2 he
  rw[if_neg (show ¬(e - y > 0) by omega),if_neg (show ¬(e - x > 0) by omega),if_neg (show ¬(e - (x+y) > 0) by omega)]
  split<;>omega
 ·have:=a3 (by omega);have:=b3 (by omega)
  rw[if_pos (show e - (x+y) > 0 by omega)]
  by_cases h1:e - y > 0
  ·rw[if_pos h1]
   by_cases h2:e - x > 0
   ·rw[if_pos h2];split<;>omega
   ·rw[if_neg h2];split<;>omega
  ·rw[if_neg h1]
   by_cases h2:e - x > 0
   ·rw[if_pos h2];split<;>omega
   ·rw[if_neg h2];split<;>omega
def jD{m:Int}{p:Int×Int}(h:0<=p.2):0<=(ag m p).2:=by
 simp only[ag]
 split<;>omega
noncomputable def pw(m:Int)(p:Int×Int):Int×Int:=if m=0 then (0,0) else ag m p
def AT{a b:Int}{p:Int×Int}(ha:0<=a)(hb:1<=b)(h:0<=p.2):jn (pw a p) (pw b p)=pw (a+b) p:=by
 unfold pw
 rw[if_neg (show ¬b=0 by omega),if_neg (show ¬a+b=0 by omega)]
 by_cases h0:a=0
 ·subst h0
  rw[if_pos rfl,Jc]
  have:=jD (m:=b) h
  simp only[jn]
  refine Ig (Jc _) ?_
  dsimp only
  split<;>omega
 ·rw[if_neg h0]
  exact r6 p (by omega) hb
noncomputable def Ty.pw(m:Int)(t:Ty):Ty:=(t.1 * m,t.2.map (C.pw m))
def Ty.Ok(js:Vs)(t:Ty):Prop:=t.2.length=js.length/\0<=t.1/\∀p∈t.2,0<=p.2
theorem iK{α β:Type}(f:α->α->β):∀l:List α,List.zipWith f l l=l.map fun x=>f x x
 |[]=>rfl
 |x::r=>by rw[List.zipWith_cons_cons,iK f r];rfl
theorem Ty.AT{a b:Int}{js:Vs}{t:Ty}(ha:0<=a)(hb:1<=b)(h:t.Ok js):(t.pw a).join (t.pw b)=t.pw (a+b):=by
 unfold Ty.pw Ty.join
 refine Ig ?_ ?_
 ·exact(Int.mul_add _ _ _).symm
 ·dsimp only
  rw[List.zipWith_map,iK]
  exact Gw fun p hp=>C.AT ha hb (h.2.2 p hp)
def Ty.CN{t:Ty}{js:Vs}(h:t.Ok js):t.pw 1=t:=by
 unfold Ty.pw
 refine Ig (HW _) ?_
 dsimp only
 refine(Gw fun p hp=>?_).trans (List.map_id _)
 unfold C.pw ag
 rw[if_neg (by decide)]
 refine Ig (HW _) ?_
 dsimp only
 rw[if_neg (by simp)]
 exact Int.add_zero _
def Ty.Bh(t:Ty):t.pw 0=(0,t.2.map fun _=>(0,0)):=by
 unfold Ty.pw
 refine Ig (IU _) ?_
 dsimp only
 exact Gw fun p hp=>by unfold C.pw;rw[if_pos rfl]
def Ty.B2{t:Ty}{m:Int}(hm:1<=m):t.pw m=t.again m:=by
 unfold Ty.pw Ty.again
 refine Ig rfl (Gw fun p hp=>?_)
 unfold C.pw
 rw[if_neg (by omega)]
theorem iL{α β γ:Type}{f:α->β->γ}:∀{xs:List α} {ys:List β} {z:γ},z∈List.zipWith f xs ys->∃x∈xs,∃y∈ys,z=f x y
 |[],_,z,h=>by simp at h
 |_::_,[],z,h=>by simp at h
 |x::r,y::s,z,h=>by
  rw[List.zipWith_cons_cons,F2]at h
  rcases h with rfl|h
  ·exact⟨x,by simp,y,by simp,rfl⟩
  ·obtain⟨a,ha,b,hb,e⟩:=iL h
   exact⟨a,by simp[ha],b,by simp[hb],e⟩
theorem Ty.Ok.join{js:Vs}{t u:Ty}(h:t.Ok js)(g:u.Ok js):(t.join u).Ok js:=by
 refine⟨?_,?_,fun p hp=>?_⟩
 ·show(List.zipWith jn t.2 u.2).length=_
  rw[List.length_zipWith,h.1,g.1,Nat.min_self]
 ·exact Int.add_nonneg h.2.1 g.2.1
 ·obtain⟨x,hx,y,hy,rfl⟩:=iL hp
  have:=h.2.2 x hx
  simp only[jn]
  split<;>omega
theorem Ty.Ok.again{js:Vs}{t:Ty}{m:Int}(h:t.Ok js)(hm:1<=m):(t.again m).Ok js:=by
 refine⟨?_,G0 h.2.1 (by omega),fun p hp=>?_⟩
 ·show(t.2.map (ag m)).length=_
  rw[FZ,h.1]
 ·obtain⟨x,hx,rfl⟩:=Gg.mp hp
  exact jD (h.2.2 x hx)
def ff(js:Vs):(z0 js).Ok js:=⟨FZ _,GK _,fun p hp=>by obtain⟨x,hx,rfl⟩:=Gg.mp hp;exact GK _⟩
def nJ{js:Vs}{t:Ty}(h:t.Ok js):(z0 js).join t=t:=by
 unfold Ty.join z0
 refine Ig (Jc _) ?_
 dsimp only
 have:∀(l:List (Int×Int)) (ks:Vs),l.length=ks.length->(∀p∈l,0<=p.2)->List.zipWith jn (zl ks) l=l:=fun l=>by
  induction l with
  |nil=>intro ks _ _;exact List.zipWith_nil_right
  |cons p r ih=>
   intro ks hl hp
   cases ks with
   |nil=>cases hl
   |cons k ks=>
    show jn (0,0) p::List.zipWith jn (zl ks) r=_
    rw[ih ks (by simpa using hl) fun q hq=>hp q (by simp[hq])]
    have:=hp p (by simp)
    congr 1
    simp only[jn]
    refine Ig (Jc _) ?_
    dsimp only
    split<;>omega
 exact this t.2 js h.1 h.2.2
def Ty.Bo(B:Int)(t:Ty):Prop:=t.1<=B/\∀p∈t.2,-B<=p.1/\p.1<=B/\p.2<=B
def Ty.Bo.mono{B D:Int}{t:Ty}(h:t.Bo B)(g:B<=D):t.Bo D:=⟨Int.le_trans h.1 g,fun p hp=>by have:=h.2 p hp;omega⟩
theorem Ty.Bo.join{B D:Int}{t u:Ty}(h:t.Bo B)(g:u.Bo D)(hB:0<=B)(hD:0<=D):(t.join u).Bo (B+D):=by
 refine⟨Int.add_le_add h.1 g.1,fun p hp=>?_⟩
 obtain⟨x,hx,y,hy,rfl⟩:=iL hp
 have:=h.2 x hx
 have:=g.2 y hy
 simp only[jn]
 split<;>omega
theorem Ty.Bo.again{B m:Int}{t:Ty}(h:t.Bo B)(hB:0<=B)(hm:1<=m):(t.again m).Bo (B * m):=by
 refine⟨GA h.1 (by omega),fun p hp=>?_⟩
 obtain⟨⟨e,d⟩,hx,rfl⟩:=Gg.mp hp
 obtain⟨h1,h2,h3⟩:=h.2 _ hx
 dsimp only at h1 h2 h3
 have m1:=GA h1 (show 0<=m by omega)
 have m2:=GA h2 (show 0<=m by omega)
 have m3:=GA h1 (show 0<=m - 1 by omega)
 rw[IA]at m1 m3
 have e1:B * (m - 1)=B * m - B:=by rw[Int.mul_sub,HW]
 have e2:-e * (m - 1) = -(e * (m - 1)):=IA _ _
 simp only[ag]
 refine⟨m1,m2,?_⟩
 rw[e2]
 have:B<=B * m:=by have:=GC hm hB;omega
 split<;>omega
theorem aW{α:Type}{g:Tg}{te:aT}{σ':bV}{keep:au->Prop}{fin:List PV->au->Prop}{S:au}(enc f:α->PV)(hk:keep S):∀(xs:List α) (ys:List PV),
  (∀x∈xs,∃σ2,g.put (enc x) σ'=some σ2/\∀Q:bY,Q (f x) S->te σ2 S Q fc)->ys.length+xs.length<=sizeLine->fin (ys++xs.map f) S->cO g b6 te σ' keep fin (xs.map enc) ys S
 |[],ys,_,hl,hf=>⟨hk,by simpa using hl,by simpa using hf⟩
 |x::r,ys,h,hl,hf=>by
  obtain⟨σ2,e,h1⟩:=h x (by simp)
  refine⟨hk,by simp at hl;omega,?_⟩
  rw[e]
  show te σ2 S (fun y S4=>cO g b6 te σ' keep fin (r.map enc) (ys++[y]) S4) fc
  exact h1 _ (aW enc f hk r (ys++[f x]) (fun y hy=>h y (by simp[hy])) (by simp at hl ⊢;omega) (by simpa using hf))
def eE{n:Nat}(h:n<=1000):n<=sizeLine:=F6 h (by decide)
abbrev iM(w:aD):Prop:=∀{S:au} {a b:Int} {Q:bY} {E:ci},0<=a->0<=b->Q (.int (Int.gcd a b)) S->w [.int a,.int b] S Q E
def Ac:iM (aZ 3 iw):=by
 intro S a b Q E ha hb k
 unfold iw
 refine ft ?_
 rw[show ay 3 [PV.int a,PV.int b]=[some (.int a),some (.int b),none] from rfl]
 refine av fun N hN=>?_
 refine⟨fun n σ S'=>S'=S/\∃(x y:Int) (z:Option PV),σ=[some (.int x),some (.int y),z]/\0<=x/\0<=y/\Int.gcd x y=Int.gcd a b/\y.toNat=n,⟨_,rfl,a,b,none,rfl,ha,hb,rfl,rfl⟩,?_⟩
 rintro n σ S' ⟨rfl,x,y,z,rfl,hx,hy,hg,rfl⟩
 walk_at "x"
 simp only[Iw,Bool.not_eq_true',decide_eq_false_iff_not]
 split
 ·rename_i hp
  refine⟨fun σ' Bx=>Bx=S'/\∃(x' y':Int) (z':Option PV),σ'=[some (.int x'),some (.int y'),z']/\0<=x'/\0<=y'/\Int.gcd x' y'=Int.gcd a b/\y'.toNat < y.toNat,?_,?_⟩
  ·rintro σ' Bx ⟨rfl,x',y',z',rfl,h1,h2,h3,h4⟩
   exact⟨_,h4,rfl,x',y',z',rfl,h1,h2,h3,rfl⟩
  ·have e:x.fmod y=x % y:=eh hy
   have l1:=IG x (b:=y) hp
   have l2:=HV x (show 0 < y by omega)
   refine⟨hp,rfl,y,x.fmod y,_,rfl,hy,by omega,?_,by omega⟩
   rw[M3.kN];exact hg
 ·rename_i hp
  have CZ:y=0:=by omega
  subst CZ
  refine hN _ _ ?_
  walk_at "x"
  rw[if_neg (by omega)]
  have Ec:x=(Int.gcd a b:Int):=by
   rw[<-hg]
   rw[Int.gcd_zero_right]
   omega
  rw[Ec]
  exact k
abbrev iN(w:aD):Prop:=∀{S:au} {t b:Int} {Q:bY} {E:ci},0<=t->0 < b->b.natAbs < 2 ^ 8000->Q (.tup [.int (M3.bc t b),.int (M3.aO t b)]) S->w [.int t,.int b] S Q E
def Ad{xc:aD}(Ac:iM xc):iN (aZ 3 (fo xc)):=by
 intro S t b Q E ht hb hs k
 unfold fo
 refine ft ?_
 rw[show ay 3 [PV.int t,PV.int b]=[some (.int t),some (.int b),none] from rfl]
 refine av fun N hN=>?_
 walk_at "x"
 refine Ac ht (by omega) (hN _ _ (av fun N hN=>?_))
 walk_at "x"
 rw[if_neg (by rw[FT];omega)]
 refine hN _ _ ?_
 walk_at "x"
 have gp:(0:Int) < (Int.gcd t b:Int):=HP.mpr (M3.eO (by omega))
 have gl:=M3.oM (t:=t) (b:=b) (by omega)
 have cd:∀z,jr z (Int.gcd t b:Int):=fun z=>⟨by omega,HS (by omega) hs⟩
 refine⟨cd _,cd _,?_⟩
 have d1:=(M3.kM (t:=t) (b:=b) (by omega))
 rw[if_neg (by omega)]at d1
 rw[d1.1,d1.2]
 exact k
def wx(n m:Int):0 < M3.aO n 2520 * M3.aO m 2520/\(M3.aO n 2520 * M3.aO m 2520).natAbs < 2 ^ 8000:=by
 obtain⟨a,b⟩:=cI n
 obtain⟨c,d⟩:=cI m
 have p:=Int.mul_pos a c
 have q:M3.aO n 2520 * M3.aO m 2520<=2520 * 2520:=Int.mul_le_mul b d (by omega) (by decide)
 exact⟨p,gv (by omega)⟩
def nK(i n:Int):IntMulOk i (M3.aO n 2520):=by have:=cI n;exact i4 (by omega) (by omega)
abbrev cS(w:aD):Prop:=∀{S:au} {n m:Int} {Q:bY} {E:ci},0<=n->0<=m->Q (cf (n+m)) S->w [cf n,cf m] S Q E
def Az{xf:aD}(Ad:iN xf):cS (aZ 2 (lW xf)):=by
 intro S n m Q E hn hm k
 unfold lW
 refine ft ?_
 rw[show ay 2 [cf n,cf m]=[some (cf n),some (cf m)] from rfl]
 simp only[cf]
 walk_at "x"
 simp only[iC,eU]
 refine⟨nK _ _,nK _ _,nK _ _,?_⟩
 have b:=wx n m
 refine Ad (Int.add_nonneg (G0 (eQ hn) (G8 (cI m).1)) (G0 (eQ hm) (G8 (cI n).1))) b.1 b.2 ?_
 rw[mF]
 exact k
def pQ{xf:aD}(AX:g7 xf):cS (aZ 2 (d_ xf)):=by
 intro S n m Q E hn hm k
 unfold d_
 refine ft ?_
 rw[show ay 2 [cf n,cf m]=[some (cf n),some (cf m)] from rfl]
 simp only[cf]
 walk_at "x"
 simp only[iC,eU]
 refine⟨nK _ _,nK _ _,nK _ _,?_⟩
 have b:=wx n m
 refine AX b.1 b.2 ?_
 rw[mF]
 exact k
abbrev gx(w:aD):Prop:=∀{S:au} {n m:Int} {Q:bY} {E:ci},0<=n->0<=m->m < 2 ^ 62->Q (cf (n * m)) S->w [cf n,.tup [.int m,.int 1]] S Q E
def A0{xf:aD}(Ad:iN xf):gx (aZ 2 (j5 xf)):=by
 intro S n m Q E hn hm hm2 k
 unfold j5
 refine ft ?_
 rw[show ay 2 [cf n,.tup [.int m,.int 1]]=[some (cf n),some (.tup [.int m,.int 1])] from rfl]
 simp only[cf]
 walk_at "x"
 simp only[iC,eU]
 refine⟨i4 (by omega) (by omega),i4 (by decide) (by decide),?_⟩
 have b:=cI n
 refine Ad (G0 (eQ hn) hm) (by omega) (gv (by omega)) ?_
 rw[pP]
 exact k
noncomputable def Ty.es(t:Ty):List PV:=t.2.map fun p=>.int p.1
noncomputable def Ty.dm(t:Ty):List PV:=t.2.map fun p=>.int p.2
noncomputable def Ty.pv(t:Ty):PV:=.tup [cf t.1,.tup t.es,.tup t.dm]
noncomputable def eV(js:Vs):PV:=.tup (js.map PV.str)
noncomputable def jE(js:Vs)(z:Str)(e d:Int):List (Int×Int):=js.map fun j=>if j=z then (e,d) else (0,0)
abbrev iO(w:aD):Prop:=∀{S:au} {js:Vs} {Q:bY} {E:ci},js.length<=1000->Q (z0 js).pv S->w [eV js] S Q E
def pR(js:Vs):List.replicate js.length (PV.int 0)=(z0 js).es:=by
 unfold Ty.es z0 zl
 rw[Gq]
 induction js with
 |nil=>rfl
 |cons j js ih=>rw[F7,Gf,ih];rfl
def uM(js:Vs):List.replicate js.length (PV.int 0)=(z0 js).dm:=by rw[pR];unfold Ty.es Ty.dm z0 zl;rw[Gq,Gq];rfl
def Ae:iO (aZ 1 fq):=by
 intro S js Q E hj k
 unfold fq
 refine ft ?_
 rw[show ay 1 [eV js]=[some (eV js)] from rfl]
 unfold eV
 walk_at "x"
 simp only[kW,FZ,Int.toNat_natCast]
 refine⟨by omega,by omega,by omega,by omega,?_⟩
 rw[g_]
 have e:(PV.tup [cf 0,.tup (List.replicate js.length (.int 0)),.tup (List.replicate js.length (.int 0))])=(z0 js).pv:=by
  unfold Ty.pv
  rw[<-pR,<-uM]
  rfl
 rw[e]
 exact k
abbrev fv(w:aD):Prop:=∀{S:au} {js:Vs} {z:Str} {m:Int} {Q:bY} {E:ci},js.length<=1000->(∀S',Ext S S'->Q (.tup (js.map fun j=>.int (if j=z then m else 0))) S')->w [eV js,.str z,.int m] S Q E
def zf:fv (aZ 3 d9):=by
 intro S js z m Q E hj k
 unfold d9
 refine ft ?_
 rw[show ay 3 [eV js,.str z,.int m]=[some (eV js),some (.str z),some (.int m)] from rfl]
 unfold eV
 walk_at "x"
 refine aW PV.str (fun j=>.int (if j=z then m else 0)) trivial js [] (fun j hj=>⟨_,rfl,fun Q q=>?_⟩) (by simpa using eE hj) fun p hp=>?_
 ·walk_at "x"
  simp only[F5,FT]
  split
  ·rename_i h;rw[if_pos h]at q;exact q
  ·rename_i h;rw[if_neg h]at q;exact q
 ·simp only[List.nil_append,ab]
  exact k _ (.new hp)
def pS{α β γ δ:Type}(f:α->β->γ)(g:γ->δ)(xs:List α)(ys:List β):(xs.zip ys).map (fun z=>g (f z.1 z.2))=(List.zipWith f xs ys).map g:=by
 rw[List.zip,List.map_zipWith,List.map_zipWith]
def uN(t u:Ty):cY t.es u.es=(t.2.zip u.2).map fun z=>.tup [.int z.1.1,.int z.2.1]:=by
 unfold cY Ty.es
 rw[List.zip_map,Gq]
 rfl
def uO(t:Ty):cY t.es t.dm=t.2.map fun z=>.tup [.int z.1,.int z.2]:=by
 unfold cY Ty.es Ty.dm
 rw[List.zip_map,Gq]
 rw[show t.2.zip t.2=t.2.map fun x=>(x,x)from iK _ _,Gq]
 rfl
def nL(t u:Ty):df t.es t.dm u.dm=(t.2.zip u.2).map fun z=>.tup [.int z.1.1,.int z.1.2,.int z.2.2]:=by
 unfold df Ty.es Ty.dm
 have:∀(l m:List (Int×Int)),((l.map fun p=>PV.int p.1).zip ((l.map fun p=>PV.int p.2).zip (m.map fun p=>PV.int p.2))).map wj=(l.zip m).map fun z=>.tup [.int z.1.1,.int z.1.2,.int z.2.2]:=fun l=>by
  induction l with
  |nil=>intro m;rfl
  |cons p r ih=>
   intro m
   cases m with
   |nil=>rfl
   |cons q s=>simp only[Gd,List.zip_cons_cons];rw[ih s];rfl
 exact this t.2 u.2
def mG(t u:Ty):(t.2.zip u.2).map (fun z=>PV.int (z.1.1+z.2.1))=(t.join u).es:=pS jn (fun p=>PV.int p.1) t.2 u.2
def mH(t u:Ty):(t.2.zip u.2).map (fun z=>PV.int (jn z.1 z.2).2)=(t.join u).dm:=pS jn (fun p=>PV.int p.2) t.2 u.2
abbrev jF(w:aD):Prop:=∀{S:au} {t u:Ty} {Q:bY} {E:ci},t.2.length<=1000->(∀S',Ext S S'->Q (.tup (t.join u).es) S')->w [.tup t.es,.tup u.es] S Q E
def A1:jF (aZ 2 j6):=by
 intro S t u Q E hj k
 unfold j6
 refine ft ?_
 rw[show ay 2 [.tup t.es,.tup u.es]=[some (.tup t.es),some (.tup u.es)] from rfl]
 walk_at "x"
 rw[uN]
 refine aW _ (fun z=>PV.int (z.1.1+z.2.1)) trivial _ [] (fun z hz=>⟨_,rfl,fun Q q=>?_⟩) ?_ fun p hp=>?_
 ·walk_at "x"
  exact q
 ·rw[G4,Im,List.length_zip]
  exact eE (by omega)
 ·simp only[List.nil_append,ab]
  rw[mG]
  exact k _ (.new hp)
abbrev k8(w:aD):Prop:=∀{S:au} {t:Ty} {m:Int} {Q:bY} {E:ci},t.2.length<=1000->0<=m->m < 2 ^ 62->(∀S',Ext S S'->Q (.tup (t.again m).es) S')->w [.tup t.es,.int m] S Q E
def pU(t:Ty)(m:Int):t.2.map (fun p=>PV.int (p.1 * m))=(t.again m).es:=by
 unfold Ty.again Ty.es
 rw[Gq]
 rfl
def pV(t:Ty)(m:Int):t.2.map (fun p=>PV.int (ag m p).2)=(t.again m).dm:=by
 unfold Ty.again Ty.dm
 rw[Gq]
 rfl
def Bi:k8 (aZ 2 de):=by
 intro S t m Q E hj h0 h1 k
 unfold de
 refine ft ?_
 rw[show ay 2 [.tup t.es,.int m]=[some (.tup t.es),some (.int m)] from rfl]
 walk_at "x"
 refine aW (fun p:Int×Int=>PV.int p.1) (fun p=>PV.int (p.1 * m)) trivial t.2 [] (fun z hz=>⟨_,rfl,fun Q q=>?_⟩) (by simpa using eE hj) fun p hp=>?_
 ·walk_at "x"
  exact⟨i4 (by omega) (by omega),q⟩
 ·simp only[List.nil_append,ab]
  rw[pU]
  exact k _ (.new hp)
abbrev dt(w:aD):Prop:=∀{S:au} {js:Vs} {t u:Ty} {Q:bY} {E:ci},js.length<=1000->t.Ok js->u.Ok js->(∀S',Ext S S'->Q (t.join u).pv S')->w [t.pv,u.pv] S Q E
def zo{xa xp:aD}(A1:jF xa)(Az:cS xp):dt (aZ 3 (iz xa xp)):=by
 intro S js t u Q E hj ht hu k
 unfold iz
 refine ft ?_
 rw[show ay 3 [t.pv,u.pv]=[some t.pv,some u.pv,none] from rfl]
 unfold Ty.pv
 refine av fun N hN=>?_
 walk_at "x"
 simp only[pD,ai,v3,lk,c3,aj,eU,nS]
 have lt:=ht.1
 have lu:=hu.1
 refine⟨by unfold Ty.es Ty.dm;rw[FZ,FZ];omega,by unfold Ty.es Ty.dm;rw[FZ,FZ];omega,?_⟩
 rw[nL]
 refine aW _ (fun z=>PV.int (jn z.1 z.2).2) trivial _ [] (fun z hz=>⟨_,rfl,fun Q q=>?_⟩) ?_ fun p hp=>?_
 ·walk_at "x"
  exact q
 ·rw[G4,Im,List.length_zip]
  exact eE (by omega)
 ·rw[GI,mH]
  refine hN _ _ ?_
  walk_at "x"
  simp only[iC,eU]
  refine Az ht.2.1 hu.2.1 ?_
  refine A1 (t:=t) (u:=u) (by omega) fun S2 X2=>?_
  simp only[X2 _ _ ab]
  exact k S2 ((Ext.new hp).trans X2)
abbrev gy(w:aD):Prop:=∀{S:au} {js:Vs} {t:Ty} {m:Int} {Q:bY} {E:ci},js.length<=1000->t.Ok js->1<=m->m < 2 ^ 62->(∀S',Ext S S'->Q (t.again m).pv S')->w [t.pv,.int m] S Q E
def A2{xm xt:aD}(Bi:k8 xm)(A0:gx xt):gy (aZ 3 (j7 xm xt)):=by
 intro S js t m Q E hj ht h1 h2 k
 unfold j7
 refine ft ?_
 rw[show ay 3 [t.pv,.int m]=[some t.pv,some (.int m),none] from rfl]
 unfold Ty.pv
 refine av fun N hN=>?_
 walk_at "x"
 simp only[eU,nS]
 have lt:=ht.1
 rw[uO]
 refine aW _ (fun p:Int×Int=>PV.int (ag m p).2) trivial t.2 [] (fun z hz=>⟨_,rfl,fun Q q=>?_⟩) (by simpa using eE (by omega)) fun p hp=>?_
 ·walk_at "x"
  exact⟨i4 (by omega) (by omega),q⟩
 ·rw[GI,pV]
  refine hN _ _ ?_
  walk_at "x"
  simp only[iC,eU]
  refine A0 ht.2.1 (by omega) h2 ?_
  refine Bi (t:=t) (by omega) (by omega) h2 fun S2 X2=>?_
  simp only[X2 _ _ ab]
  exact k S2 ((Ext.new hp).trans X2)
abbrev fw(w:aD):Prop:=∀{S:au} {js:Vs} {z:Str} {m:Int} {a b:Bd} {Q:bY} {E:ci},js.length<=1000->(∀S',Ext S S'->Q (Ty.pv (0,jE js z (-m) m)) S')->w [eV js,(Bd.As z m a b).pv] S Q E
def iP(js:Vs)(z:Str)(e d:Int):js.map (fun j=>PV.int (if j=z then e else 0))=Ty.es (0,jE js z e d):=by
 unfold Ty.es jE
 rw[Gq]
 exact Gw fun j _=>by dsimp only [Function.comp];split<;>rfl
def pW(js:Vs)(z:Str)(e d:Int):js.map (fun j=>PV.int (if j=z then d else 0))=Ty.dm (0,jE js z e d):=by
 unfold Ty.dm jE
 rw[Gq]
 exact Gw fun j _=>by dsimp only [Function.comp];split<;>rfl
def AF{xt:aD}(zf:fv xt):fw (aZ 2 (b7 xt)):=by
 intro S js z m a b Q E hj k
 unfold b7
 refine ft ?_
 rw[show ay 2 [eV js,(Bd.As z m a b).pv]=[some (eV js),some (.tup [.str "take",.str z,.int m,a.pv,b.pv])] from rfl]
 walk_at "x"
 simp only[eU,nS]
 rw[g_]
 refine zf hj fun S1 X1=>zf hj fun S2 X2=>?_
 rw[iP js z (-m) m,pW js z (-m) m]
 exact k S2 (X1.trans X2)
def kj{a b:Bd}{v:PV}(h:aK (.yK a b) v=true):∃x y,v = .tup [x,y]/\aK a x=true/\aK b y=true:=by
 cases v with
 |tup xs=>
  by_cases h2:xs.length=2
  ·obtain⟨x,y,rfl⟩:=l0 h2
   rw[k6,Iq]at h
   exact⟨x,y,rfl,h⟩
  ·rw[kf h2]at h;cases h
 |int i=>rw[fN]at h;cases h
 |str z=>rw[fM]at h;cases h
 |_=>cases h
def kl{a b:Bd}{v:PV}(h:aK (.zY a b) v=true):∃i y,v = .tup [.int i,y]/\((i=0/\aK a y=true)\/(i=1/\aK b y=true)):=by
 cases v with
 |tup xs=>
  by_cases h2:xs.length=2
  ·obtain⟨x,y,rfl⟩:=l0 h2
   cases x with
   |int i=>
    rw[pN]at h
    refine⟨i,y,rfl,?_⟩
    by_cases h0:i=0
    ·rw[if_pos h0]at h;exact .inl ⟨h0,h⟩
    ·rw[if_neg h0]at h
     by_cases h1:i=1
     ·rw[if_pos h1]at h;exact .inr ⟨h1,h⟩
     ·rw[if_neg h1]at h;cases h
   |_=>cases h
  ·rw[kg h2]at h;cases h
 |int i=>rw[fN]at h;cases h
 |str z=>rw[fM]at h;cases h
 |_=>cases h
def km{z:Str}{m:Int}{a b:Bd}{v:PV}(h:aK (.As z m a b) v=true):∃i y,v = .tup [.int i,y]/\((i=0/\aK a y=true)\/(i=1/\aK b y=true)):=by
 cases v with
 |tup xs=>
  by_cases h2:xs.length=2
  ·obtain⟨x,y,rfl⟩:=l0 h2
   cases x with
   |int i=>
    rw[pO]at h
    refine⟨i,y,rfl,?_⟩
    by_cases h0:i=0
    ·rw[if_pos h0]at h;exact .inl ⟨h0,h⟩
    ·rw[if_neg h0]at h
     by_cases h1:i=1
     ·rw[if_pos h1]at h;exact .inr ⟨h1,h⟩
     ·rw[if_neg h1]at h;cases h
   |_=>cases h
  ·rw[kh h2]at h;cases h
 |int i=>rw[fN]at h;cases h
 |str z=>rw[fM]at h;cases h
 |_=>cases h
def kn{a:Bd}{v:PV}(h:aK (.Ai a) v=true):∃xs,v = .tup xs/\xs.all (lZ a)=true:=by
 cases v with
 |tup xs=>rw[iG]at h;exact⟨xs,rfl,h⟩
 |int i=>rw[fN]at h;cases h
 |str z=>rw[fM]at h;cases h
 |_=>cases h
def du{L n:Nat}{xs:List PV}(h:Ay L n (.tup xs)):xs.length<=L/\∀x∈xs,∃m,Ay L m x:=by
 cases h with
 |tup hl hx=>exact⟨hl,fun x hm=>⟨_,hx x hm⟩⟩
noncomputable def CO(js:Vs)(f:PV->Ty):PV->Ty
 | .tup [.int m,y]=>(f y).again m
 |_=>z0 js
noncomputable def Bd.Af(js:Vs):Bd->PV->Ty
 | .Ai a,.tup xs=>(xs.map (CO js fun y=>a.Af js y)).foldl Ty.join (z0 js)
 | .yK a b,.tup [x,y]=>(a.Af js x).join (b.Af js y)
 | .zY a b,.tup [.int i,y]=>if i=0 then a.Af js y else b.Af js y
 | .As z m a b,.tup [.int i,y]=>if i=0 then Ty.join (0,jE js z (-m) m) (a.Af js y) else b.Af js y
 | .pay x y,_=>(x * (2520 / y),zl js)
 | .put z m,_=>(0,jE js z m 0)
 |_,_=>z0 js
def mI(js:Vs)(a:Bd)(xs:List PV):(Bd.Ai a).Af js (.tup xs)=(xs.map (CO js fun y=>a.Af js y)).foldl Ty.join (z0 js):=rfl
def mJ(js:Vs)(a b:Bd)(i:Int)(y:PV):(Bd.zY a b).Af js (.tup [.int i,y])=if i=0 then a.Af js y else b.Af js y:=rfl
def mK(js:Vs)(z:Str)(m:Int)(a b:Bd)(i:Int)(y:PV):(Bd.As z m a b).Af js (.tup [.int i,y])=if i=0 then Ty.join (0,jE js z (-m) m) (a.Af js y) else b.Af js y:=rfl
def dN{a:Bd}{g:PV}(h:lZ a g=true):∃m y,g = .tup [.int m,y]/\1<=m/\aK a y=true:=by
 unfold lZ at h
 split at h
 ·rename_i m y
  rw[Iq,FT]at h
  exact⟨m,y,rfl,h.1,h.2⟩
 ·cases h
def ko{js:Vs}{z:Str}{e d:Int}(hd:0<=d):Ty.Ok js (0,jE js z e d):=⟨FZ _,GK _,fun p hp=>by
 obtain⟨j,hj,rfl⟩:=Gg.mp hp
 split
 ·exact hd
 ·exact GK _⟩
theorem hE{js:Vs}:∀(ts:List Ty) (t:Ty),(∀u∈ts,u.Ok js)->t.Ok js->(ts.foldl Ty.join t).Ok js
 |[],t,_,h=>h
 |u::r,t,hs,h=>hE r (t.join u) (fun x hx=>hs x (by simp[hx])) (h.join (hs u (by simp)))
theorem aQ{js us:Vs}:∀(t:Bd) (v:PV),t.good js us->aK t v=true->(t.Af js v).Ok js
 | .rest,v,_,_=>ff js
 | .use z,v,_,_=>ff js
 | .pay x y,v,hg,_=>⟨(ff js).1,G0 (show nB x y from hg).x0 (HQ (by decide) (G8 (show nB x y from hg).low.pos)),(ff js).2.2⟩
 | .put z m,v,hg,_=>ko (GK _)
 | .yK a b,v,hg,hv=>by
  obtain⟨x,y,rfl,hx,hy⟩:=kj hv
  exact(aQ a x hg.1 hx).join (aQ b y hg.2 hy)
 | .zY a b,v,hg,hv=>by
  obtain⟨i,y,rfl,hi⟩:=kl hv
  rw[mJ]
  rcases hi with⟨rfl,h⟩|⟨rfl,h⟩
  ·rw[if_pos rfl];exact aQ a y hg.1 h
  ·rw[if_neg (by decide)];exact aQ b y hg.2 h
 | .As z m a b,v,hg,hv=>by
  obtain⟨i,y,rfl,hi⟩:=km hv
  rw[mK]
  rcases hi with⟨rfl,h⟩|⟨rfl,h⟩
  ·rw[if_pos rfl];exact(ko (by have:=hg.2.1;omega)).join (aQ a y hg.2.2.2.1 h)
  ·rw[if_neg (by decide)];exact aQ b y hg.2.2.2.2 h
 | .Ai a,v,hg,hv=>by
  obtain⟨xs,rfl,hx⟩:=kn hv
  rw[mI]
  refine hE _ _ (fun u hu=>?_) (ff js)
  obtain⟨g,B9,rfl⟩:=Gg.mp hu
  obtain⟨m,y,rfl,hm,hy⟩:=dN (Gz.mp hx g B9)
  exact(aQ a y hg hy).again hm
noncomputable def tB:Nat->Int
 |0=>2 ^ 22
 |n+1=>2 ^ 67 * tB n
theorem gA:∀n,2 ^ 22<=tB n
 |0=>GK _
 |n+1=>by have:=gA n;unfold tB;omega
def dv{n m:Nat}(h:n<=m):tB n<=tB m:=by
 induction m with
 |zero=>rw[Nat.le_zero.mp h];exact GK _
 |succ m ih=>
  by_cases e:n=m+1
  ·rw[e];exact GK _
  ·have h1:=ih (by omega);have h2:=gA m;show tB n<=2 ^ 67 * tB m;omega
def kq{js:Vs}{n B:Int}(h:n<=B)(hB:0<=B):Ty.Bo B (n,zl js):=⟨h,fun p hp=>by
 obtain⟨j,hj,rfl⟩:=Gg.mp hp
 exact⟨by omega,hB,hB⟩⟩
def mL{js:Vs}{z:Str}{e d B:Int}(h1:-B<=e)(h2:e<=B)(h3:d<=B)(hB:0<=B):Ty.Bo B (0,jE js z e d):=⟨hB,fun p hp=>by
 obtain⟨j,hj,rfl⟩:=Gg.mp hp
 split
 ·exact⟨h1,h2,h3⟩
 ·exact⟨by omega,hB,hB⟩⟩
theorem k9{B:Int}(hB:0<=B):∀(ts:List Ty) (t:Ty) (D:Int),(∀u∈ts,u.Bo B)->t.Bo D->0<=D->(ts.foldl Ty.join t).Bo (D+ts.length * B)
 |[],t,D,_,h,_=>h.mono (by simp)
 |u::r,t,D,hs,h,hD=>(k9 hB r (t.join u) (D+B) (fun x hx=>hs x (by simp[hx])) (h.join (hs u (by simp)) hD hB) (by omega)).mono (by
   rw[F7,Int.natCast_add,Int.add_mul];show _<=D+(r.length * B+1 * B);omega)
theorem cC{js us:Vs}:∀(t:Bd) (v:PV) (n:Nat),t.good js us->aK t v=true->Ay 50 n v->b9 (2 ^ 60) v=true->(t.Af js v).Bo (tB t.dep)
 | .rest,v,_,_,_,_,_=>kq (show(0:Int)<=tB 1 by decide) (show(0:Int)<=tB 1 by decide)
 | .use z,v,_,_,_,_,_=>kq (show(0:Int)<=tB 1 by decide) (show(0:Int)<=tB 1 by decide)
 | .pay x y,v,_,hg,_,_,_=>by
  have c:nB x y:=hg
  refine kq ?_ (show(0:Int)<=tB 1 by decide)
  have h1:x * (2520 / y)<=999 * 2520:=Int.mul_le_mul c.x1 (Jb _ (by decide)) (HQ (by decide) (G8 c.low.pos)) (by decide)
  exact Int.le_trans h1 (show(999 * 2520:Int)<=tB 1 by decide)
 | .put z m,v,_,hg,_,_,_=>by
  have:=hg.2.1;have:=hg.2.2
  have e:(100:Int)<=tB (Bd.put z m).dep:=show(100:Int)<=tB 1 by decide
  exact mL (by omega) (by omega) (by omega) (by omega)
 | .yK a b,v,n,hg,hv,ht,hb=>by
  obtain⟨x,y,rfl,hx,hy⟩:=kj hv
  obtain⟨m1,h1⟩:=(du ht).2 x (by simp)
  obtain⟨m2,h2⟩:=(du ht).2 y (by simp)
  have d1:=dv (show a.dep<=max a.dep b.dep by omega)
  have d2:=dv (show b.dep<=max a.dep b.dep by omega)
  have p:=gA (max a.dep b.dep)
  refine(((cC a x m1 hg.1 hx h1 (aP hb x (by simp))).mono d1).join ((cC b y m2 hg.2 hy h2 (aP hb y (by simp))).mono d2) (by omega) (by omega)).mono ?_
  show _<=2 ^ 67 * tB (max a.dep b.dep)
  omega
 | .zY a b,v,n,hg,hv,ht,hb=>by
  obtain⟨i,y,rfl,hi⟩:=kl hv
  obtain⟨m2,h2⟩:=(du ht).2 y (by simp)
  have d1:=dv (show a.dep<=(Bd.zY a b).dep by simp only[Bd.dep];omega)
  have d2:=dv (show b.dep<=(Bd.zY a b).dep by simp only[Bd.dep];omega)
  rw[mJ]
  rcases hi with⟨rfl,h⟩|⟨rfl,h⟩
  ·rw[if_pos rfl];exact(cC a y m2 hg.1 h h2 (aP hb y (by simp))).mono d1
  ·rw[if_neg (by decide)];exact(cC b y m2 hg.2 h h2 (aP hb y (by simp))).mono d2
 | .As z m a b,v,n,hg,hv,ht,hb=>by
  obtain⟨i,y,rfl,hi⟩:=km hv
  obtain⟨m2,h2⟩:=(du ht).2 y (by simp)
  have d1:=dv (show a.dep<=max a.dep b.dep by omega)
  have d2:=dv (show b.dep<=(Bd.As z m a b).dep by simp only[Bd.dep];omega)
  have p:=gA (max a.dep b.dep)
  rw[mK]
  rcases hi with⟨rfl,h⟩|⟨rfl,h⟩
  ·rw[if_pos rfl]
   have:=hg.2.1;have:=hg.2.2.1
   refine((mL (B:=10) (by omega) (by omega) (by omega) (by omega)).join ((cC a y m2 hg.2.2.2.1 h h2 (aP hb y (by simp))).mono d1) (by omega) (by omega)).mono ?_
   show _<=2 ^ 67 * tB (max a.dep b.dep)
   omega
  ·rw[if_neg (by decide)];exact(cC b y m2 hg.2.2.2.2 h h2 (aP hb y (by simp))).mono d2
 | .Ai a,v,n,hg,hv,ht,hb=>by
  obtain⟨xs,rfl,hx⟩:=kn hv
  have hl:=(du ht).1
  have p:=gA a.dep
  rw[mI]
  have one:∀u∈xs.map (CO js fun y=>a.Af js y),u.Bo (tB a.dep * 2 ^ 60):=fun u hu=>by
   obtain⟨g,B9,rfl⟩:=Gg.mp hu
   obtain⟨m,y,rfl,hm,hy⟩:=dN (Gz.mp hx g B9)
   obtain⟨m1,h1⟩:=(du ht).2 _ B9
   obtain⟨m2,h2⟩:=(du h1).2 y (by simp)
   have hi:=aP hb _ B9
   have hm2:=aP hi (.int m) (by simp)
   simp only[b9,FT]at hm2
   exact((cC a y m2 hg hy h2 (aP hi y (by simp))).again (by omega) hm).mono (GC (by omega) (by omega))
  refine(k9 (by omega) _ _ 0 one (kq (GK _) (GK _)) (GK _)).mono ?_
  rw[FZ]
  have:(xs.length:Int) * (tB a.dep * 2 ^ 60)<=50 * (tB a.dep * 2 ^ 60):=GA (by omega) (by omega)
  show _<=2 ^ 67 * tB a.dep
  omega
def Bd.B3(t:Bd):t.hd=("pay":Str)↔∃x y,t = .pay x y:=by cases t<;>simp[Bd.hd,aG]
def Bd.B4(t:Bd):t.hd=("put":Str)↔∃z m,t = .put z m:=by cases t<;>simp[Bd.hd,aG]
abbrev fP(n:Nat)(w:aD):Prop:=∀{S:au} {js us:Vs} {t:Bd} {v:PV} {Q:bY} {E:ci},js.length<=1000->t.good js us->aK t v=true->b9 (2 ^ 60) v=true->t.dep<=n->(∀S',Ext S S'->Q (t.Af js v).pv S')->w [eV js,t.pv,v] S Q E
abbrev iQ(n:Nat)(w:aD):Prop:=∀{S:au} {js us:Vs} {a:Bd} {v:PV} {Q:bY} {E:ci},js.length<=1000->a.good js us->aK (.Ai a) v=true->b9 (2 ^ 60) v=true->a.dep<=n->(∀S',Ext S S'->Q ((Bd.Ai a).Af js v).pv S')->w [eV js,(Bd.Ai a).pv,v] S Q E
def jG{js:Vs}(f:PV->Ty)(done:List PV)(x:PV):((done++[x]).map f).foldl Ty.join (z0 js)=((done.map f).foldl Ty.join (z0 js)).join (f x):=by
 rw[II,List.foldl_append];rfl
def nM{xn xb xa s0 s1:aD}(Ae:iO xn)(zo:dt xb)(A2:gy xa)(n:Nat)(ih:fP n s1):iQ n (aZ 5 (br xn xb xa s0 s1)):=by
 intro S js us a v Q E hj hg hv hb hd k
 obtain⟨xs,rfl,hx⟩:=kn hv
 unfold br
 refine ft ?_
 rw[show ay 5 [eV js,(Bd.Ai a).pv,.tup xs]=[some (eV js),some (.tup [.str "often",a.pv]),some (.tup xs),none,none] from rfl]
 refine av fun N hN=>?_
 walk_at "x"
 refine Ae hj (hN _ _ (av fun N hN=>?_))
 simp only[dI,bL,v3,lk,iq]
 refine cz (fun done σ S'=>∃x4,σ=[some (eV js),some (.tup [.str "often",a.pv]),some (.tup xs),some ((done.map (CO js fun y=>a.Af js y)).foldl Ty.join (z0 js)).pv,x4]/\Ext S S') ⟨_,rfl,.refl⟩ (fun _ _ _ _=>trivial) ?_ ?_
 ·rintro done g rest σ S1 K e ⟨x4,rfl,X1⟩ hK
  have B9:g∈xs:=by rw[e];simp
  obtain⟨m,y,rfl,hm,hy⟩:=dN (Gz.mp hx g B9)
  have hi:=aP hb _ B9
  have hm2:=aP hi (.int m) (by simp)
  simp only[b9,FT]at hm2
  have ok:((done.map (CO js fun y=>a.Af js y)).foldl Ty.join (z0 js)).Ok js:=hE _ _ (fun u hu=>by
   obtain⟨g',hg',rfl⟩:=Gg.mp hu
   obtain⟨m',y',rfl,hm',hy'⟩:=dN (Gz.mp hx g' (by rw[e];simp[hg']))
   exact(aQ a y' hg hy').again hm') (ff js)
  simp only[Tg.put,List.set_cons_succ,List.set_cons_zero]
  walk_at "x"
  simp only[iC,eU]
  refine ih hj hg hy (aP hi y (by simp)) hd fun S2 X2=>?_
  refine A2 hj (aQ a y hg hy) hm (by omega) fun S3 X3=>?_
  refine zo hj ok ((aQ a y hg hy).again hm) fun S4 X4=>?_
  refine hK _ _ ⟨some (.tup [.int m,y]),?_,X1.trans (X2.trans (X3.trans X4))⟩
  rw[jG]
  rfl
 ·rintro σ S1 ⟨x4,rfl,X1⟩
  refine hN _ _ ?_
  walk_at "x"
  exact k S1 X1
def BD{xn xt xb xc xk s0 s1:aD}(Ae:iO xn)(zf:fv xt)(zo:dt xb)(AE:iH xc)(AF:fw xk)(n:Nat)(FG:iQ n s0)(ih:fP n s1):fP (n+1) (aZ 6 (dg xn xt xb xc xk s0 s1)):=by
 intro S js us t v Q E hj hg hv hb hd k
 unfold dg
 refine ft ?_
 rw[Bd.BZ,show ay 6 [eV js,.tup (.str t.hd::t.tl),v]=[some (eV js),some (.tup (.str t.hd::t.tl)),some v,none,none,none] from rfl]
 refine av fun N hN=>?_
 walk_at "x"
 simp only[iC]
 refine hN _ _ (av fun N hN=>?_)
 walk_at "x"
 refine Ae hj (hN _ _ (av fun N hN=>?_))
 simp only[bW,a_,ai,v3,lk,c3,bJ,F5,FT]
 by_cases h1:t.hd=("pay":Str)
 ·rw[if_pos h1]
  obtain⟨x,y,rfl⟩:=(Bd.B3 t).mp h1
  unfold Ty.pv
  walk_at "x"
  simp only[Bd.tl,eU,nS]
  rw[mE hg]
  exact k S .refl
 rw[if_neg h1]
 refine hN _ _ (av fun N hN=>?_)
 simp only[bW,a_,ai,v3,lk,c3,bJ,F5,FT]
 by_cases h2:t.hd=("put":Str)
 ·rw[if_pos h2]
  obtain⟨z,m,rfl⟩:=(Bd.B4 t).mp h2
  unfold Ty.pv
  walk_at "x"
  simp only[Bd.tl,iC,eU,nS]
  refine zf hj fun S1 X1=>?_
  have:=k S1 X1
  rw[iP js z m 0]
  have e:(z0 js).dm=Ty.dm (0,jE js z m 0):=by
   unfold Ty.dm z0 zl jE
   rw[Gq,Gq]
   exact Gw fun j _=>by dsimp only [Function.comp];split<;>rfl
  rw[e]
  exact this
 rw[if_neg h2]
 refine hN _ _ (av fun N hN=>?_)
 simp only[bW,a_,ai,v3,lk,c3,bJ,F5,FT]
 by_cases h3:t.hd=("then":Str)
 ·rw[if_pos h3]
  obtain⟨a,b,rfl⟩:=(Bd.BA t).mp h3
  obtain⟨x,y,rfl,hx,hy⟩:=kj hv
  simp only[Bd.dep]at hd
  walk_at "x"
  simp only[Bd.tl,iC,eU,nS]
  refine ih hj hg.1 hx (aP hb x (by simp)) (by omega) fun S1 X1=>?_
  refine ih hj hg.2 hy (aP hb y (by simp)) (by omega) fun S2 X2=>?_
  refine zo hj (aQ a x hg.1 hx) (aQ b y hg.2 hy) fun S3 X3=>?_
  exact k S3 (X1.trans (X2.trans X3))
 rw[if_neg h3]
 refine hN _ _ (av fun N hN=>?_)
 simp only[bW,a_,ai,v3,lk,c3,bJ,F5,FT]
 by_cases h4:t.hd=("often":Str)
 ·rw[if_pos h4]
  obtain⟨a,rfl⟩:=(Bd.BB t).mp h4
  simp only[Bd.dep]at hd
  walk_at "x"
  exact FG hj hg hv hb (by omega) k
 rw[if_neg h4]
 refine hN _ _ (av fun N hN=>?_)
 walk_at "x"
 rw[show([PV.str "either",PV.str "take"]:List PV)=(["either","take"]:Vs).map PV.str from rfl]
 refine eo t.Dg wu ?_
 by_cases h5:t.hd∈(["either","take"]:Vs)
 ·simp only[h5,decide_true,Iw,Bool.not_true,IV,Jd]
  refine hN _ _ (av fun N hN=>?_)
  simp only[F2,F9,GY]at h5
  have side:∀(hd2:List PV) (a b c:Bd) (i:Int) (y:PV),(.str t.hd::t.tl)=hd2++[a.pv,b.pv]->hd2.length<=3->v = .tup [.int i,y]->(i=0\/i=1)->(if i=0 then a.pv else b.pv)=c.pv->c.good js us->aK c y=true->c.dep<=n->
    (∀S',Ext S S'->N [some (eV js),some (.tup (.str t.hd::t.tl)),some v,some (.str t.hd),some (z0 js).pv,some (c.Af js y).pv] S')->az 5 (ae s1 [v3 0,ae xc [v3 1,v3 2],ai aj (v3 2) (c3 (.int 1))]) { nx:=N,rt:=Q,ex:=fc } [some (eV js),some (.tup (.str t.hd::t.tl)),some v,some (.str t.hd),some (z0 js).pv,none] S:=by
   intro hd2 a b c i y e1 e2 e3 hi e4 g1 g2 g3 kk
   subst e3
   simp only[az,ae,bZ,ai,v3,lk,c3]
   rw[e1]
   refine AE hi e2 ?_
   rw[e4]
   simp only[aj,eU]
   refine ih hj g1 g2 (aP hb y (by simp)) g3 fun S1 X1=>?_
   have:=kk S1 X1
   rw[e1]at this
   exact this
  rcases h5 with h5|h5
  ·cases t with
   |zY a b=>
    obtain⟨i,y,rfl,hi⟩:=kl hv
    simp only[Bd.dep]at hd
    have fin:∀c:Bd,(Bd.zY a b).Af js (.tup [.int i,y])=c.Af js y->∀S',Ext S S'->N [some (eV js),some (.tup (.str (Bd.zY a b).hd::(Bd.zY a b).tl)),some (.tup [.int i,y]),some (.str (Bd.zY a b).hd),some (z0 js).pv,some (c.Af js y).pv] S':=fun c e S1 X1=>by
     refine hN _ _ (av fun N hN=>?_)
     simp only[Bd.hd]
     walk_at "y"
     refine hN _ _ ?_
     walk_at "x"
     rw[<-e]
     exact k S1 X1
    rcases hi with⟨rfl,h⟩|⟨rfl,h⟩
    ·exact side [.str "either"] a b a 0 y rfl (by decide) rfl (.inl rfl) (if_pos rfl) hg.1 h (by omega) (fin a rfl)
    ·exact side [.str "either"] a b b 1 y rfl (by decide) rfl (.inr rfl) (if_neg (by decide)) hg.2 h (by omega) (fin b rfl)
   |_=>simp[Bd.hd,aG]at h5
  ·cases t with
   |As z m a b=>
    obtain⟨i,y,rfl,hi⟩:=km hv
    simp only[Bd.dep]at hd
    rcases hi with⟨rfl,h⟩|⟨rfl,h⟩
    ·refine side [.str "take",.str z,.int m] a b a 0 y rfl (FQ 3) rfl (.inl rfl) (if_pos rfl) hg.2.2.2.1 h (by omega) fun S1 X1=>hN _ _ (av fun N hN=>?_)
     simp only[Bd.hd]
     walk_at "y"
     refine AF (a:=a) (b:=b) hj fun S2 X2=>?_
     refine zo hj (ko (by have:=hg.2.1;omega)) (aQ a y hg.2.2.2.1 h) fun S3 X3=>?_
     exact k S3 (X1.trans (X2.trans X3))
    ·refine side [.str "take",.str z,.int m] a b b 1 y rfl (FQ 3) rfl (.inr rfl) (if_neg (by decide)) hg.2.2.2.2 h (by omega) fun S1 X1=>hN _ _ (av fun N hN=>?_)
     simp only[Bd.hd]
     walk_at "y"
     refine hN _ _ ?_
     walk_at "x"
     exact k S1 X1
   |_=>simp[Bd.hd,aG]at h5
 ·simp only[h5,decide_false,Iw,Bool.not_false,HH]
  have e:t.Af js v=z0 js:=by cases t<;>simp_all [Bd.hd,aG]<;>rfl
  rw[<-e]
  exact k S .refl
abbrev gB(w:aD):Prop:=∀{S:au} {js us:Vs} {ds:List (Str×Bd)} {i:Nat} {z:Str} {t:Bd} {v:PV} {Q:bY} {E:ci},js.length<=1000->ds[i]?=some (z,t)->t.good js us->aK t v=true->b9 (2 ^ 60) v=true->t.dep<=6->(∀S',Ext S S'->Q (t.Af js v).pv S')->w [sI js ds,.int i,v] S Q E
def A3{xt:aD}(BD:fP 6 xt):gB (aZ 3 (j_ xt)):=by
 intro S js us ds i z t v Q E hj hi hg hv hb hd k
 unfold j_
 refine ft ?_
 rw[show ay 3 [sI js ds,.int i,v]=[some (.tup [eV js,.tup (ds.map mC)]),some (.int i),some v] from rfl]
 walk_at "x"
 simp only[iC,eU]
 rw[bq (v:=mC (z,t)) (by rw[F4,hi];rfl)]
 unfold mC
 simp only[eU]
 exact BD hj hg hv hb hd k
def A4(S:au)(t:Ty)(v:PV):Prop:=∃pe pd,v = .tup [cf t.1,.ref pe,.ref pd]/\S pe=some (.lst t.es)/\S pd=some (.lst t.dm)
def A4.mono{S S':au}{t:Ty}{v:PV}(h:A4 S t v)(e:Ext S S'):A4 S' t v:=by
 obtain⟨pe,pd,h1,h2,h3⟩:=h
 exact⟨pe,pd,h1,e _ _ h2,e _ _ h3⟩
def iR(n:Nat):aV 0 n=(List.range n).map fun(k:Nat)=>PV.int (k:Int):=by
 unfold aV
 refine Gw fun k _=>?_
 simp
def jH{α β:Type}(l:List α)(g:α->β)(d:β):(List.range l.length).map (fun k=>(l[k]?.map g).getD d)=l.map g:=by
 refine List.ext_getElem (by simp) fun i h1 h2=>?_
 simp only[FZ,Ik]at h1
 simp[h1]
abbrev eR(w:aD):Prop:=∀{S:au} {n:Nat} {t u:Ty} {v v':PV} {Q:bY} {E:ci},n<=1000->t.2.length=n->u.2.length=n->0<=t.1->0<=u.1->A4 S t v->A4 S u v'->(∀x S',Ext S S'->A4 S' (t.join u) x->Q x S')->w [v,v'] S Q E
def pX{xp:aD}(Az:cS xp):eR (aZ 4 (cH xp)):=by
 intro S n t u v v' Q E hn ht hu ht0 FH hv hv' k
 obtain⟨pe,pd,rfl,e1,d1⟩:=hv
 obtain⟨qe,qd,rfl,e2,d2⟩:=hv'
 unfold cH
 refine ft ?_
 rw[show ay 4 [.tup [cf t.1,.ref pe,.ref pd],.tup [cf u.1,.ref qe,.ref qd]]=[some (.tup [cf t.1,.ref pe,.ref pd]),some (.tup [cf u.1,.ref qe,.ref qd]),none,none] from rfl]
 have lz:(t.2.zip u.2).length=n:=by rw[List.length_zip,ht,hu,Nat.min_self]
 have le:t.es.length=n:=by unfold Ty.es;rw[FZ];exact ht
 have get:∀k∈List.range n,∃z:(Int×Int)×(Int×Int),(t.2.zip u.2)[k]?=some z/\zp t.es (k:Int)=some (.int z.1.1)/\zp t.dm (k:Int)=some (.int z.1.2)/\zp u.es (k:Int)=some (.int z.2.1)/\zp u.dm (k:Int)=some (.int z.2.2):=fun k hk=>by
  have hk':k < (t.2.zip u.2).length:=by rw[lz];exact HZ.mp hk
  have h0:(t.2.zip u.2)[k]?=some (t.2.zip u.2)[k]:=GF hk'
  obtain⟨a,b⟩:=Hj.mp h0
  refine⟨_,h0,?_,?_,?_,?_⟩
  ·exact bq (by unfold Ty.es;rw[F4,a];rfl)
  ·exact bq (by unfold Ty.dm;rw[F4,a];rfl)
  ·exact bq (by unfold Ty.es;rw[F4,b];rfl)
  ·exact bq (by unfold Ty.dm;rw[F4,b];rfl)
 refine av fun N hN=>?_
 walk_at "x"
 simp only[eU,e1,le]
 refine⟨by omega,by omega,?_⟩
 rw[GO,iR]
 refine aW (fun k:Nat=>PV.int (k:Int)) (fun k=>((t.2.zip u.2)[k]?.map fun z=>PV.int (z.1.1+z.2.1)).getD .non) trivial (List.range n) [] (fun k hk=>⟨_,rfl,fun Q q=>?_⟩) (by rw[G4,Im,Ik];exact eE hn) fun p hp=>?_
 ·obtain⟨z,hz,a1,a2,a3,a4⟩:=get k hk
  rw[hz]at q
  walk_at "x"
  simp only[eU,e1,e2,a1,a3]
  exact q
 ·rw[GI]
  have EZ:=jH (t.2.zip u.2) (fun z=>PV.int (z.1.1+z.2.1)) .non
  rw[lz]at EZ
  rw[EZ,mG]
  refine hN _ _ (av fun N hN=>?_)
  have np:∀{b o},S b=some o->b≠p:=fun h e=>by rw[e,hp]at h;cases h
  have X1:Ext S (aw S p (.lst (t.join u).es)):=.new hp
  have hp1:(aw S p (.lst (t.join u).es)) p=some (.lst (t.join u).es):=ab
  generalize aw S p (.lst (t.join u).es)=S1 at X1 hp1
  walk_at "x"
  simp only[eU,X1 _ _ e1,le]
  refine⟨by omega,by omega,?_⟩
  rw[GO,iR]
  refine aW (fun k:Nat=>PV.int (k:Int)) (fun k=>((t.2.zip u.2)[k]?.map fun z=>PV.int (jn z.1 z.2).2).getD .non) trivial (List.range n) [] (fun k hk=>⟨_,rfl,fun Q q=>?_⟩) (by rw[G4,Im,Ik];exact eE hn) fun p2 hp2=>?_
  ·obtain⟨z,hz,a1,a2,a3,a4⟩:=get k hk
   rw[hz]at q
   walk_at "x"
   simp only[eU,nS,X1 _ _ e1,X1 _ _ d1,X1 _ _ d2,a1,a2,a4]
   exact q
  ·rw[GI]
   have E1:=jH (t.2.zip u.2) (fun z=>PV.int (jn z.1 z.2).2) .non
   rw[lz]at E1
   rw[E1,mH]
   refine hN _ _ ?_
   walk_at "x"
   simp only[iC]
   refine Az ht0 FH ?_
   have Er:p≠p2:=fun e=>by rw[<-e,hp1]at hp2;cases hp2
   exact k _ _ (X1.trans (.new hp2)) ⟨p,p2,rfl,by rw[al Er];exact hp1,ab⟩
def Ty.Bj(t:Ty)(a:Int):(t.pw a).2.length=t.2.length:=FZ _
abbrev gC(w:aD):Prop:=∀{S:au} {js:Vs} {t:Ty} {m:Int} {v:PV} {Q:bY} {E:ci},js.length<=1000->t.Ok js->1<=m->A4 S t v->(∀x S',Ext S S'->A4 S' (t.again m) x->Q x S')->w [v,.int m] S Q E
def pY{xj:aD}(AU:eR xj):gC (aZ 3 (eg xj)):=by
 intro S js t m v Q E hj ht hm hv k
 have hv0:=hv
 obtain⟨pe,pd,rfl,e1,d1⟩:=hv
 unfold eg
 refine ft ?_
 rw[show ay 3 [.tup [cf t.1,.ref pe,.ref pd],.int m]=[some (.tup [cf t.1,.ref pe,.ref pd]),some (.int m),none] from rfl]
 have lt:=ht.1
 have z1:∀S0:au,Ext S S0->∀(Q:bY),(∀p,S0 p=none->Q (.ref p) (aw S0 p (.lst (t.pw 0).es)))->aY (bL (ai aj (v3 0) (c3 (.int 1)))) (.n 0) b6 (c3 (.int 0)) 1 [] [some (.tup [cf t.1,.ref pe,.ref pd]),some (.int m),none] S0 Q fc:=fun S0 X0 Q q=>by
  walk_at "x"
  simp only[eU,X0 _ _ e1]
  refine aW (fun p:Int×Int=>PV.int p.1) (fun _=>.int 0) (X0 _ _ e1) t.2 [] (fun z hz=>⟨_,rfl,fun Q q=>q⟩) (by simpa using eE (by omega)) fun p hp=>?_
  rw[GI,show t.2.map (fun _=>PV.int 0)=(t.pw 0).es by rw[Ty.Bh];unfold Ty.es;rw[Gq];rfl]
  exact q p hp
 refine av fun N hN=>?_
 simp only[az,aC,bZ,c3]
 refine z1 S .refl _ fun p1 hp1=>?_
 refine z1 _ (.new hp1) _ fun p2 hp2=>?_
 have np:p1≠p2:=fun e=>by rw[<-e,ab]at hp2;cases hp2
 have X0:Ext S (aw (aw S p1 (.lst (t.pw 0).es)) p2 (.lst (t.pw 0).es)):=(Ext.new hp1).trans (.new hp2)
 have L0:A4 (aw (aw S p1 (.lst (t.pw 0).es)) p2 (.lst (t.pw 0).es)) (t.pw 0) (.tup [.tup [.int 0,.int 1],.ref p1,.ref p2]):=⟨p1,p2,by rw[Ty.Bh,g_],by rw[al np,ab],by rw[ab,Ty.Bh];unfold Ty.es Ty.dm;rw[Gq,Gq];rfl⟩
 generalize aw (aw S p1 (.lst (t.pw 0).es)) p2 (.lst (t.pw 0).es)=S1 at X0 L0
 refine hN _ _ (av fun N hN=>?_)
 refine⟨fun n σ S'=>∃(a p r:Int) (v1 v2:PV),σ=[some v1,some (.int r),some v2]/\1<=p/\0<=a/\0<=r/\a+p * r=m/\A4 S' (t.pw p) v1/\A4 S' (t.pw a) v2/\Ext S S'/\r.toNat=n,⟨_,0,1,m,_,_,rfl,by decide,by decide,by omega,by omega,by rw[Ty.CN ht];exact hv0.mono X0,L0,X0,rfl⟩,?_⟩
 rintro n σ S' ⟨a,p,r,v1,v2,rfl,hp,ha,hr,hs,L1,L2,X,rfl⟩
 simp only[a_,ai,v3,lk,c3,nw,dS,FT]
 by_cases h0:0 < r
 ·rw[if_pos h0]
  refine⟨fun σ' Bx=>∃(a p r':Int) (v1 v2:PV),σ'=[some v1,some (.int r'),some v2]/\1<=p/\0<=a/\0<=r'/\a+p * r'=m/\A4 Bx (t.pw p) v1/\A4 Bx (t.pw a) v2/\Ext S Bx/\r'.toNat < r.toNat,?_,?_⟩
  ·rintro σ' Bx ⟨a,p,r',v1,v2,rfl,h1,h2,h3,h4,h5,h6,h7,h8⟩
   exact⟨_,h8,a,p,r',v1,v2,rfl,h1,h2,h3,h4,h5,h6,h7,rfl⟩
  ·have em:r.fmod 2=r % 2:=eh (by decide)
   have ed:r.fdiv 2=r / 2:=sH (by decide)
   have c2:t.1 * p>=0:=G0 ht.2.1 (by omega)
   have c1:t.1 * a>=0:=G0 ht.2.1 ha
   have rest:∀(a':Int) (v2':PV) (S2:au) (N0 bk ct:bV->au->Prop),0<=a'->a'+(p+p) * (r / 2)=m->A4 S2 (t.pw a') v2'->Ext S' S2->
     (∀v1' S3,A4 S3 (t.pw (p+p)) v1'->A4 S3 (t.pw a') v2'->Ext S S3->N0 [some v1',some (.int (r / 2)),some v2'] S3)->ah (az 0 (ae xj [v3 0,v3 0])) (az 1 (ai dF (v3 1) (c3 (.int 2)))) { nx:=N0,rt:=Q,ex:=fc,bk:=bk,ct:=ct } [some v1,some (.int r),some v2'] S2:=by
    intro a' v2' S2 N0 bk ct h1 h2 h3 h4 kk
    refine av fun N hN=>?_
    walk_at "x"
    refine AU (n:=js.length) hj (by rw[Ty.Bj];exact lt) (by rw[Ty.Bj];exact lt) c2 c2 (L1.mono h4) (L1.mono h4) fun x S3 X3 L3=>?_
    rw[Ty.AT (by omega) hp ht]at L3
    refine hN _ _ ?_
    walk_at "x"
    rw[ed]
    exact⟨ux (by decide) (by decide),kk _ _ L3 (h3.mono X3) (X.trans (h4.trans X3))⟩
   have er:r=2 * (r / 2)+r % 2:=by omega
   have e2:(p+p) * (r / 2)=p * (2 * (r / 2)):=by rw[<-Int.two_mul,Il 2 p,I9]
   refine av fun N2 AY=>?_
   walk_at "x"
   simp only[F5,FT]
   refine⟨by decide,?_⟩
   rw[em]
   by_cases hr1:r % 2=1
   ·rw[if_pos hr1]
    refine AU (n:=js.length) hj (by rw[Ty.Bj];exact lt) (by rw[Ty.Bj];exact lt) c1 c2 L2 L1 fun x S3 X3 L3=>?_
    rw[Ty.AT ha hp ht]at L3
    have e3:p * r=p * (2 * (r / 2))+p:=by
     have:r=2 * (r / 2)+1:=by omega
     rw[show p * r=p * (2 * (r / 2)+1) by rw[<-this],Int.mul_add,HW]
    refine AY _ _ (rest (a+p) x S3 _ _ _ (by omega) (by rw[e2];omega) L3 X3 fun v1' S4 l1 l2 x4=>?_)
    exact⟨a+p,p+p,r / 2,v1',x,rfl,by omega,by omega,by omega,by rw[e2];omega,l1,l2,x4,by omega⟩
   ·rw[if_neg hr1]
    have e3:p * r=p * (2 * (r / 2)):=by
     have:r=2 * (r / 2):=by omega
     rw[show p * r=p * (2 * (r / 2)) by rw[<-this]]
    refine AY _ _ (rest a v2 S' _ _ _ ha (by rw[e2];omega) L2 .refl fun v1' S4 l1 l2 x4=>?_)
    exact⟨a,p+p,r / 2,v1',v2,rfl,by omega,by omega,by omega,by rw[e2];omega,l1,l2,x4,by omega⟩
 ·rw[if_neg h0]
  have:r=0:=by omega
  subst this
  rw[IU,Int.add_zero]at hs
  subst hs
  refine hN _ _ ?_
  walk_at "x"
  rw[Ty.B2 hm]at L2
  exact k _ _ X L2
noncomputable def eF(m:Int):Int:=if 0 - m > 0 then 0 - m else 0
abbrev iS(w:aD):Prop:=∀{S:au} {js:Vs} {z:Str} {m:Int} {Q:bY} {E:ci},js.length<=1000->(∀x S',Ext S S'->A4 S' (0,jE js z m (eF m)) x->Q x S')->w [eV js,.str z,.int m] S Q E
def nN:iS (aZ 4 dh):=by
 intro S js z m Q E hj k
 unfold dh
 refine ft ?_
 rw[show ay 4 [eV js,.str z,.int m]=[some (eV js),some (.str z),some (.int m),none] from rfl]
 refine av fun N hN=>?_
 unfold eV
 walk_at "x"
 refine aW PV.str (fun j=>.int (if j=z then m else 0)) trivial js [] (fun j hj=>⟨_,rfl,fun Q q=>?_⟩) (by simpa using eE hj) fun p hp=>?_
 ·walk_at "x"
  simp only[F5,FT]
  refine⟨by split<;>exact i4 (by decide) (by decide),?_⟩
  split
  ·rename_i h;rw[if_pos h]at q;rw[HW];exact q
  ·rename_i h;rw[if_neg h]at q;rw[IU];exact q
 ·rw[GI,iP js z m (eF m)]
  refine hN _ _ ?_
  have X1:Ext S (aw S p (.lst (Ty.es (0,jE js z m (eF m))))):=.new hp
  have hp1:(aw S p (.lst (Ty.es (0,jE js z m (eF m))))) p=some (.lst (Ty.es (0,jE js z m (eF m)))):=ab
  generalize aw S p (.lst (Ty.es (0,jE js z m (eF m))))=S1 at X1 hp1
  walk_at "x"
  simp only[hp1]
  rw[show Ty.es (0,jE js z m (eF m))=js.map (fun j=>PV.int (if j=z then m else 0))from (iP js z m (eF m)).symm]at hp1 ⊢
  refine aW (fun j=>PV.int (if j=z then m else 0)) (fun j=>.int (if j=z then eF m else 0)) hp1 js [] (fun j hj=>⟨_,rfl,fun Q q=>?_⟩) (by simpa using eE hj) fun p2 hp2=>?_
  ·walk_at "x"
   unfold eF at q
   by_cases h:j=z
   ·simp only[if_pos h]at q ⊢;exact q
   ·simp only[if_neg h]at q ⊢;exact q
  ·rw[GI,pW js z m (eF m),g_]
   have Er:p≠p2:=fun e=>by rw[<-e,hp1]at hp2;cases hp2
   exact k _ _ (X1.trans (.new hp2)) ⟨p,p2,rfl,by rw[al Er,hp1,iP js z m (eF m)],ab⟩
def pZ(js:Vs)(z:Str):jE js z 0 0=zl js:=Gw fun j _=>by split<;>rfl
def p4{js:Vs}{t:Bd}{v:PV}(h1:¬t.hd=("pay":Str))(h2:¬t.hd=("put":Str))(h3:¬t.hd=("then":Str))(h4:¬t.hd=("either":Str))(h5:¬t.hd=("take":Str))(h6:¬t.hd=("often":Str)):t.Af js v=z0 js:=by
 cases t with
 |rest=>rfl
 |use z=>rfl
 |pay x y=>exact absurd rfl h1
 |put z m=>exact absurd rfl h2
 |yK a b=>exact absurd rfl h3
 |zY a b=>exact absurd rfl h4
 |As z m a b=>exact absurd rfl h5
 |Ai a=>exact absurd rfl h6
abbrev eG(n:Nat)(w:aD):Prop:=∀{S:au} {js us:Vs} {t:Bd} {v:PV} {Q:bY} {E:ci},js.length<=1000->t.good js us->aK t v=true->t.dep<=n->(∀x S',Ext S S'->A4 S' (t.Af js v) x->Q x S')->w [eV js,t.pv,v] S Q E
def Bl{xm xj xn s0:aD}(A5:iS xm)(AU:eR xj)(Ck:gC xn)(n:Nat)(ih:eG n s0):eG (n+1) (aZ 7 (di xm xj xn s0)):=by
 intro S js us t v Q E hj hg hv hd k
 have join:∀{S1:au} {t1 u1:Ty} {x y:PV} {Q:bY} {E:ci},t1.Ok js->u1.Ok js->A4 S1 t1 x->A4 S1 u1 y->(∀w S',Ext S1 S'->A4 S' (t1.join u1) w->Q w S')->xj [x,y] S1 Q E:=fun h1 h2 l1 l2 q=>AU (n:=js.length) hj h1.1 h2.1 h1.2.1 h2.2.1 l1 l2 q
 unfold di
 refine ft ?_
 rw[Bd.BZ,show ay 7 [eV js,.tup (.str t.hd::t.tl),v]=[some (eV js),some (.tup (.str t.hd::t.tl)),some v,none,none,none,none] from rfl]
 refine av fun N hN=>?_
 walk_at "x"
 refine A5 hj fun f S1 X1 L1=>?_
 rw[show eF 0=0 from rfl,pZ]at L1
 refine hN _ _ (av fun N hN=>?_)
 walk_at "x"
 simp only[iC]
 refine hN _ _ (av fun N hN=>?_)
 simp only[bW,a_,ai,v3,lk,c3,bJ,F5,FT]
 by_cases h1:t.hd=("pay":Str)
 ·rw[if_pos h1]
  obtain⟨x,y,rfl⟩:=(Bd.B3 t).mp h1
  obtain⟨pe,pd,rfl,e1,d1⟩:=L1
  walk_at "x"
  simp only[Bd.tl,eU,nS]
  rw[mE hg]
  exact k _ S1 X1 ⟨pe,pd,rfl,e1,d1⟩
 rw[if_neg h1]
 refine hN _ _ (av fun N hN=>?_)
 simp only[bW,a_,ai,v3,lk,c3,bJ,F5,FT]
 by_cases h2:t.hd=("put":Str)
 ·rw[if_pos h2]
  obtain⟨z,m,rfl⟩:=(Bd.B4 t).mp h2
  walk_at "x"
  simp only[Bd.tl,eU,nS]
  refine A5 hj fun x S2 X2 L2=>?_
  rw[show eF m=0 by unfold eF;rw[if_neg (by have:=hg.2.1;omega)]]at L2
  exact k _ S2 (X1.trans X2) L2
 rw[if_neg h2]
 refine hN _ _ (av fun N hN=>?_)
 simp only[bW,a_,ai,v3,lk,c3,bJ,F5,FT]
 by_cases h3:t.hd=("then":Str)
 ·rw[if_pos h3]
  obtain⟨a,b,rfl⟩:=(Bd.BA t).mp h3
  obtain⟨x,y,rfl,hx,hy⟩:=kj hv
  simp only[Bd.dep]at hd
  walk_at "x"
  simp only[Bd.tl,iC,eU,nS]
  refine ih hj hg.1 hx (by omega) fun x2 S2 X2 L2=>?_
  refine ih hj hg.2 hy (by omega) fun x3 S3 X3 L3=>?_
  refine join (aQ a x hg.1 hx) (aQ b y hg.2 hy) (L2.mono X3) L3 fun x4 S4 X4 L4=>?_
  exact k _ S4 (X1.trans (X2.trans (X3.trans X4))) L4
 rw[if_neg h3]
 refine hN _ _ (av fun N hN=>?_)
 simp only[bW,lN,a_,ai,v3,lk,c3,bJ,F5,FT]
 have two:∀(hd2:List PV) (a b c:Bd) (i:Int) (y f2:PV) (u:Ty) (S2:au) (N' bk ct:bV->au->Prop),(.str t.hd::t.tl)=hd2++[a.pv,b.pv]->v = .tup [.int i,y]->(i=0\/i=1)->(if i=0 then a.pv else b.pv)=c.pv->c.good js us->aK c y=true->c.dep<=n->Ext S S2->u.Ok js->A4 S2 u f2->t.Af js v=u.join (c.Af js y)->
   aE (ae xj [v3 3,ae s0 [v3 0,ai aj (v3 1) (ai bu (ai aj (v3 2) (c3 (.int 0))) (c3 (.int 2))),ai aj (v3 2) (c3 (.int 1))]]) { nx:=N',rt:=Q,ex:=fc,bk:=bk,ct:=ct } [some (eV js),some (.tup (.str t.hd::t.tl)),some v,some f2,some (.str t.hd),none,none] S2:=by
  intro hd2 a b c i y f2 u S2 N' bk ct e1 e3 hi e4 g1 g2 g3 X2 hu L2 ee
  subst e3
  rw[e1]
  walk_at "x"
  simp only[iC,eU]
  rw[mD hi]
  simp only[e4]
  refine ih hj g1 g2 g3 fun x3 S3 X3 L3=>?_
  refine join hu (aQ c y g1 g2) (L2.mono X3) L3 fun x4 S4 X4 L4=>?_
  rw[<-ee]at L4
  exact k _ S4 (X2.trans (X3.trans X4)) L4
 have Es:∀{u:Ty},u.Ok js->u=(z0 js).join u:=fun h=>(nJ h).symm
 by_cases h4:t.hd=("either":Str)
 ·rw[if_pos h4,if_pos trivial]
  refine av fun N2 AY=>?_
  cases t with
  |zY a b=>
   obtain⟨i,y,rfl,hi⟩:=kl hv
   simp only[Bd.dep]at hd
   simp only[Bd.hd]
   walk_at "y"
   refine AY _ _ ?_
   rcases hi with⟨rfl,h⟩|⟨rfl,h⟩
   ·exact two [.str "either"] a b a 0 y f (z0 js) S1 _ _ _ rfl rfl (.inl rfl) (if_pos rfl) hg.1 h (by omega) X1 (ff js) L1 (Es (aQ a y hg.1 h))
   ·exact two [.str "either"] a b b 1 y f (z0 js) S1 _ _ _ rfl rfl (.inr rfl) (if_neg (by decide)) hg.2 h (by omega) X1 (ff js) L1 (Es (aQ b y hg.2 h))
  |_=>simp[Bd.hd,aG]at h4
 rw[if_neg h4]
 by_cases h5:t.hd=("take":Str)
 ·rw[if_pos h5]
  refine av fun N2 AY=>?_
  cases t with
  |As z m a b=>
   obtain⟨i,y,rfl,hi⟩:=km hv
   simp only[Bd.dep]at hd
   simp only[Bd.hd,Bd.tl]
   rcases hi with⟨rfl,h⟩|⟨rfl,h⟩
   ·walk_at "y"
    refine A5 hj fun f2 S2 X2 L2=>?_
    rw[show(0:Int) - m = -m by omega,show eF (-m)=m by unfold eF;rw[if_pos (by have:=hg.2.1;omega)];omega]at L2
    refine AY _ _ ?_
    exact two [.str "take",.str z,.int m] a b a 0 y f2 (0,jE js z (-m) m) S2 _ _ _ rfl rfl (.inl rfl) (if_pos rfl) hg.2.2.2.1 h (by omega) (X1.trans X2) (ko (by have:=hg.2.1;omega)) L2 rfl
   ·walk_at "y"
    refine AY _ _ ?_
    exact two [.str "take",.str z,.int m] a b b 1 y f (z0 js) S1 _ _ _ rfl rfl (.inr rfl) (if_neg (by decide)) hg.2.2.2.2 h (by omega) X1 (ff js) L1 (Es (aQ b y hg.2.2.2.2 h))
  |_=>simp[Bd.hd,aG]at h5
 rw[if_neg h5]
 refine hN _ _ (av fun N hN=>?_)
 simp only[bW,a_,ai,v3,lk,c3,bJ,F5,FT]
 by_cases h6:t.hd=("often":Str)
 ·rw[if_pos h6]
  obtain⟨a,rfl⟩:=(Bd.BB t).mp h6
  obtain⟨xs,rfl,hx⟩:=kn hv
  simp only[Bd.dep]at hd
  simp only[dI,bL,v3,lk,iq]
  refine cz (fun done σ S'=>∃x3 x5 x6,σ=[some (eV js),some (.tup (.str (Bd.Ai a).hd::(Bd.Ai a).tl)),some (.tup xs),some x3,some (.str (Bd.Ai a).hd),x5,x6]/\Ext S S'/\A4 S' ((done.map (CO js fun y=>a.Af js y)).foldl Ty.join (z0 js)) x3) ⟨_,_,_,rfl,X1,L1⟩ (fun _ _ _ _=>trivial) ?_ ?_
  ·rintro done g rest σ S2 K e ⟨x3,x5,x6,rfl,X2,L2⟩ hK
   have B9:g∈xs:=by rw[e];simp
   obtain⟨m,y,rfl,hm,hy⟩:=dN (Gz.mp hx g B9)
   have ok:((done.map (CO js fun y=>a.Af js y)).foldl Ty.join (z0 js)).Ok js:=hE _ _ (fun u hu=>by
    obtain⟨g',hg',rfl⟩:=Gg.mp hu
    obtain⟨m',y',rfl,hm',hy'⟩:=dN (Gz.mp hx g' (by rw[e];simp[hg']))
    exact(aQ a y' hg hy').again hm') (ff js)
   simp only[Tg.put,Tg.zB,List.set_cons_succ,List.set_cons_zero]
   walk_at "x"
   simp only[Bd.tl,eU]
   refine ih hj hg hy (by omega) fun x4 S3 X3 L3=>?_
   refine Ck hj (aQ a y hg hy) hm L3 fun x5 S4 X4 L4=>?_
   refine join ok ((aQ a y hg hy).again hm) (L2.mono (X3.trans X4)) L4 fun x6 S5 X5 L5=>?_
   refine hK _ _ ⟨_,_,_,rfl,X2.trans (X3.trans (X4.trans X5)),?_⟩
   rw[jG]
   exact L5
  ·rintro σ S2 ⟨x3,x5,x6,rfl,X2,L2⟩
   refine hN _ _ ?_
   walk_at "x"
   exact k _ S2 X2 L2
 ·rw[if_neg h6]
  refine hN _ _ ?_
  walk_at "x"
  rw[p4 h1 h2 h3 h4 h5 h6]at k
  exact k _ S1 X1 L1
end C
namespace G20
open PySem L2 L3
noncomputable def bp(i:Nat):Stmt:=PySem.Challenge.pw_dueworth_k20_tallies_of_traces.main.body.getD i (.Pass ⟨0,0,0,0⟩)
structure Txt (P:Program) (w:World) (K:Vo) (mg:Vr):Prop where
 o_common:bd K mg "common" (bp 1) ["one","other"]
 o_fraction:bd K mg "fraction" (bp 2) ["top","bottom"]
 o_plus:bd K mg "plus" (bp 3) ["one","other"]
 o_times:bd K mg "times" (bp 4) ["one","other"]
 o_chosen:bd K mg "chosen" (bp 6) ["body","trace"]
 o_things_of:bd K mg "things_of" (bp 8) ["jars","name","things"]
 o_added:bd K mg "added" (bp 9) ["one","other"]
 o_multiplied:bd K mg "multiplied" (bp 10) ["one","many"]
 o_no_tally:bd K mg "no_tally" (bp 11) ["jars"]
 o_behind:bd K mg "behind" (bp 12) ["one","other"]
 o_again:bd K mg "again" (bp 13) ["one","many"]
 o_tally_of_often:bd K mg "tally_of_often" (bp 14) ["jars","body","goings"]
 o_tally_of_take:bd K mg "tally_of_take" (bp 15) ["jars","body"]
 o_tally_of:bd K mg "tally_of" (bp 16) ["jars","body","trace"]
 o_tally:bd K mg "tally" (bp 17) ["house","d","trace"]
 o__law_deal:bd K mg "_law_deal" (bp 19) ["_law_script","_law_base"]
 o__law_draw:bd K mg "_law_draw" (bp 20) ["_law_deal_here","_law_many_here"]
 o__law_words:bd K mg "_law_words" (bp 21) ["_law_deal_here","_law_many_here"]
 o__law_low:bd K mg "_law_low" (bp 22) ["_law_top","_law_bottom"]
 o__law_plus:bd K mg "_law_plus" (bp 23) ["_law_one","_law_other"]
 o__law_cost:bd K mg "_law_cost" (bp 24) ["_law_deal_here"]
 o__law_leaf:bd K mg "_law_leaf" (bp 25) ["_law_deal_here","_law_jars"]
 o__law_body:bd K mg "_law_body" (bp 26) ["_law_deal_here","_law_jars","_law_left","_law_down"]
 o__law_pass_count:bd K mg "_law_pass_count" (bp 27) ["_law_body_here"]
 o__law_round_count:bd K mg "_law_round_count" (bp 28) ["_law_body_here"]
 o__law_deed_body:bd K mg "_law_deed_body" (bp 29) ["_law_deal_here","_law_jars","_law_room","_law_most"]
 o__law_house:bd K mg "_law_house" (bp 30) ["_law_deal_here","_law_most_jars","_law_most_deeds","_law_room"]
 o__law_any_house:bd K mg "_law_any_house" (bp 31) ["_law_deal_here"]
 o__law_trace_to:bd K mg "_law_trace_to" (bp 32) ["_law_deal_here","_law_body_here","_law_left","_law_wide"]
 o__law_joined:bd K mg "_law_joined" (bp 33) ["_law_one","_law_other"]
 o__law_many:bd K mg "_law_many" (bp 34) ["_law_one","_law_many_here"]
 o__law_moved:bd K mg "_law_moved" (bp 35) ["_law_names","_law_jar","_law_many_here"]
 o__law_tally:bd K mg "_law_tally" (bp 36) ["_law_names","_law_body_here","_law_trace"]
 o__law_many_goings:bd K mg "_law_many_goings" (bp 37) ["_law_deal_here"]
 Dm:mg "abs" = none
 Cq:mg "int" = none
 zZ:mg "len" = none
 CP:mg "list" = none
 A_:mg "max" = none
 zg:mg "range" = none
 B5:mg "repr" = none
 BE:mg "reversed" = none
 yO:mg "tuple" = none
 B6:mg "zip" = none
section
variable {P:Program} {w:World} {K:Vo} {mg:Vr} {base:Heap}
def xV:(["jar","name","things"]:Vs).Nodup:=by decide +kernel
def wy:(["left","right"]:Vs).Nodup:=by decide +kernel
def xW:(["number","many"]:Vs).Nodup:=by decide +kernel
def uP:(["effect","first","second"]:Vs).Nodup:=by decide +kernel
def wA:(["effect","asked","many"]:Vs).Nodup:=by decide +kernel
def wB:(["_law_one"]:Vs).Nodup:=by decide +kernel
def xX:(["_law_k","_law_deal_here","_law_letters"]:Vs).Nodup:=by decide +kernel
def xY:(["_law_j","_law_deal_here","_law_letters"]:Vs).Nodup:=by decide +kernel
def xZ:(["_law_k","_law_deal_here","_law_first","_law_jars","_law_many_here","_law_room","_law_words_here"]:Vs).Nodup:=by decide +kernel
def x8:(["_law_k","_law_deal_here","_law_jars","_law_words_here"]:Vs).Nodup:=by decide +kernel
def sJ:(["_law_k","_law_one","_law_other"]:Vs).Nodup:=by decide +kernel
def p7:(["_law_number"]:Vs).Nodup:=by decide +kernel
def wC:(["_law_name","_law_jar","_law_many_here"]:Vs).Nodup:=by decide +kernel
def k_:aD:=aZ 3 C.iw
def nO(T:Txt P w K mg):zn P w K mg base 1 "common" 2 k_:=eP ["one","other","left"] T.o_common (fun _ _ _ _ _ _ _ hr nd=>(ad (fG Gr (yg hr (ac 1) aa) (ad (s4 2 nd (ao cP (ac 0) (ac 1)))
  (ad (s4 0 nd (ac 1))
  (ak (s4 1 nd (ac 2))))))
  (ak (aq (cB v8 T.Dm (l1 (ac 0))))))) rfl
def fx:aD:=aZ 3 (C.fo k_)
def gQ(T:Txt P w K mg):zn P w K mg base 2 "fraction" 2 fx:=eP ["top","bottom","part"] T.o_fraction (fun _ _ _ _ _ _ _ hr nd=>(ad (s4 2 nd (c4 (nO T) hr (lc (ac 0) (l1 (ac 1)))))
  (ad (bm (bH lV (ac 1) aa (a9 _)) (ak (s4 2 nd (kQ dR (ac 2)))) aJ)
  (ak (aq (ap (lc (ao fk (ac 0) (ac 2)) (l1 (ao fk (ac 1) (ac 2)))))))))) rfl
def l6:aD:=aZ 2 (C.lW fx)
def r_(T:Txt P w K mg):zn P w K mg base 3 "plus" 2 l6:=eP ["one","other"] T.o_plus (fun _ _ _ _ _ _ _ hr nd=>(ak (aq (c4 (gQ T) hr (lc (ao aB (ao ba (aI hr (ac 0)) (aI hr (ac 1))) (ao ba (aI hr (ac 1)) (aI hr (ac 0)))) (l1 (ao ba (aI hr (ac 0)) (aI hr (ac 1))))))))) rfl
def kr:aD:=aZ 2 (C.j5 fx)
def p_(T:Txt P w K mg):zn P w K mg base 3 "times" 2 kr:=eP ["one","other"] T.o_times (fun _ _ _ _ _ _ _ hr nd=>(ak (aq (c4 (gQ T) hr (lc (ao ba (aI hr (ac 0)) (aI hr (ac 1))) (l1 (ao ba (aI hr (ac 0)) (aI hr (ac 1))))))))) rfl
def iT:aD:=aZ 2 C.ix
def nP(T:Txt P w K mg):zn P w K mg base 1 "chosen" 2 iT:=eP ["body","trace"] T.o_chosen (fun _ _ _ _ _ _ _ hr nd=>(ak (aq (dL hr (ac 0) (ao aB (kQ dR aa) (aI hr (ac 1))))))) rfl
def cD:aD:=aZ 3 C.d9
def dy(T:Txt P w K mg):zn P w K mg base 1 "things_of" 3 cD:=eP ["jars","name","things"] T.o_things_of (fun _ _ _ _ _ _ _ hr nd=>(ak (aq (cT bg T.yO (l1 (qy ["things","name"] 1 [1,2] ["jar","name","things"] (dE (ac 0)) (fun _=>(gn 0 xV)) (fun _=>cb) (fun _=>(vV (fe hr (ac 0) (ac 1)) (ac 2) aa)))))))) rfl
def mM:aD:=aZ 2 C.j6
def qf(T:Txt P w K mg):zn P w K mg base 1 "added" 2 mM:=eP ["one","other"] T.o_added (fun _ _ _ _ _ _ _ hr nd=>(ak (aq (cT bg T.yO (l1 (qy [] 2 [] ["left","right"] (sE rfl rfl rfl T.B6 (by decide +kernel) (lc (ac 0) (l1 (ac 1)))) (fun _=>(u7 rfl (bD (gn 0 wy) (bD (gn 1 wy) jv)))) (fun _=>cb) (fun _=>(ao aB (ac 0) (ac 1))))))))) rfl
def fQ:aD:=aZ 2 C.de
def i5(T:Txt P w K mg):zn P w K mg base 1 "multiplied" 2 fQ:=eP ["one","many"] T.o_multiplied (fun _ _ _ _ _ _ _ hr nd=>(ak (aq (cT bg T.yO (l1 (qy ["many"] 1 [1] ["number","many"] (dE (ac 0)) (fun _=>(gn 0 xW)) (fun _=>cb) (fun _=>(ao ba (ac 0) (ac 1))))))))) rfl
def cr:aD:=aZ 1 C.fq
def gR(T:Txt P w K mg):zn P w K mg base 1 "no_tally" 1 cr:=eP ["jars"] T.o_no_tally (fun _ _ _ _ _ _ _ hr nd=>(ak (aq (ap (lc (ap (lc aa (l1 aa))) (lc (ao my (ap (l1 aa)) (cB dW T.zZ (l1 (ac 0)))) (l1 (ao my (ap (l1 aa)) (cB dW T.zZ (l1 (ac 0))))))))))) rfl
def cU:aD:=aZ 3 (C.iz mM l6)
def gD(T:Txt P w K mg):zn P w K mg base 4 "behind" 2 cU:=eP ["one","other","demand"] T.o_behind (fun _ _ _ _ _ _ _ hr nd=>(ad (uv [] 3 [] ["effect","first","second"] 2 nd (ut rfl rfl rfl T.B6 (by decide +kernel) (lc (aI hr (ac 0)) (lc (aI hr (ac 0)) (l1 (aI hr (ac 1)))))) (fun _=>(u7 rfl (bD (gn 0 uP) (bD (gn 1 uP) (bD (gn 2 uP) jv))))) (fun _=>cb) (fun _=>(cB (gk rfl) T.A_ (lc (ac 1) (l1 (ao cg (ac 2) (ac 0)))))))
  (ak (aq (ap (lc (c4 (r_ T) hr (lc (aI hr (ac 0)) (l1 (aI hr (ac 1))))) (lc (c4 (qf T) hr (lc (aI hr (ac 0)) (l1 (aI hr (ac 1))))) (l1 (cT bg T.yO (l1 (ac 2))))))))))) rfl
def hG:aD:=aZ 3 (C.j7 fQ kr)
def qg(T:Txt P w K mg):zn P w K mg base 4 "again" 2 hG:=eP ["one","many","demand"] T.o_again (fun _ _ _ _ _ _ _ hr nd=>(ad (uv ["many"] 2 [1] ["effect","asked","many"] 2 nd (sE rfl rfl rfl T.B6 (by decide +kernel) (lc (aI hr (ac 0)) (l1 (aI hr (ac 0))))) (fun _=>(u7 rfl (bD (gn 0 wA) (bD (gn 1 wA) jv)))) (fun _=>cb) (fun _=>(ao aB (ac 1) (cB (gk rfl) T.A_ (lc aa (l1 (ao ba (kQ dR (ac 0)) (ao cg (ac 2) aa))))))))
  (ak (aq (ap (lc (c4 (p_ T) hr (lc (aI hr (ac 0)) (l1 (ap (lc (ac 1) (l1 aa)))))) (lc (c4 (i5 T) hr (lc (aI hr (ac 0)) (l1 (ac 1)))) (l1 (cT bg T.yO (l1 (ac 2))))))))))) rfl
def bB:aD:=aZ 2 (C.b7 cD)
def gE(T:Txt P w K mg):zn P w K mg base 2 "tally_of_take" 2 bB:=eP ["jars","body"] T.o_tally_of_take (fun _ _ _ _ _ _ _ hr nd=>(ak (aq (ap (lc (ap (lc aa (l1 aa))) (lc (c4 (dy T) hr (lc (ac 0) (lc (aI hr (ac 1)) (l1 (kQ dR (aI hr (ac 1))))))) (l1 (c4 (dy T) hr (lc (ac 0) (lc (aI hr (ac 1)) (l1 (aI hr (ac 1))))))))))))) rfl
noncomputable def aM:Nat->aD×aD
 |0=>(rX,rX)
 |n+1=>(aZ 5 (C.br cr cU hG (aM n).1 (aM n).2),aZ 6 (C.dg cr cD cU iT bB (aM n).1 (aM n).2))
def bS(n:Nat):aD:=(aM n).1
def fy(n:Nat):aD:=(aM n).2
def fR(T:Txt P w K mg)(n:Nat){s0 s1:aD}(R0:zn P w K mg base (4+n) "tally_of_often" 3 s0)(R1:zn P w K mg base (4+n) "tally_of" 3 s1):zn P w K mg base (4+n+1) "tally_of_often" 3 (aZ 5 (C.br cr cU hG s0 s1)):=eP ["jars","body","goings","found","going"] T.o_tally_of_often (fun _ _ _ _ _ _ _ hr nd=>(ad (s4 3 nd (c4 (gR T) hr (l1 (ac 0))))
  (ad (gN Gr rfl (dE (ac 2)) (gn 4 nd) (ak (s4 3 nd (c4 (gD T) hr (lc (ac 3) (l1 (c4 (qg T) hr (lc (c4 R1 hr (lc (ac 0) (lc (aI hr (ac 1)) (l1 (aI hr (ac 4)))))) (l1 (aI hr (ac 4)))))))))))
  (ak (aq (ac 3)))))) rfl
def ld(T:Txt P w K mg)(n:Nat){s0 s1:aD}(R0:zn P w K mg base (4+n) "tally_of_often" 3 s0)(R1:zn P w K mg base (4+n) "tally_of" 3 s1):zn P w K mg base (4+n+1) "tally_of" 3 (aZ 6 (C.dg cr cD cU iT bB s0 s1)):=eP ["jars","body","trace","head","nothing","side"] T.o_tally_of (fun _ _ _ _ _ _ _ hr nd=>(ad (s4 3 nd (aI hr (ac 1)))
  (ad (s4 4 nd (c4 (gR T) hr (l1 (ac 0))))
  (ad (bm (fe hr (ac 3) am) (ak (aq (ap (lc (aI hr (ac 1)) (lc (aI hr (ac 4)) (l1 (aI hr (ac 4)))))))) aJ)
  (ad (bm (fe hr (ac 3) am) (ak (aq (ap (lc (aI hr (ac 4)) (lc (c4 (dy T) hr (lc (ac 0) (lc (aI hr (ac 1)) (l1 (aI hr (ac 1)))))) (l1 (aI hr (ac 4)))))))) aJ)
  (ad (bm (fe hr (ac 3) am) (ak (aq (c4 (gD T) hr (lc (c4 R1 hr (lc (ac 0) (lc (aI hr (ac 1)) (l1 (aI hr (ac 2)))))) (l1 (c4 R1 hr (lc (ac 0) (lc (aI hr (ac 1)) (l1 (aI hr (ac 2))))))))))) aJ)
  (ad (bm (fe hr (ac 3) am) (ak (aq (c4 R0 hr (lc (ac 0) (lc (ac 1) (l1 (ac 2))))))) aJ)
  (ad (bm (bH (oZ (mw hr)) (ac 3) (ap (lc am (l1 am))) rfl) (ak (aq (ac 4))) aJ)
  (ad (s4 5 nd (c4 R1 hr (lc (ac 0) (lc (c4 (nP T) hr (lc (ac 1) (l1 (ac 2)))) (l1 (aI hr (ac 2)))))))
  (ad (bm (qv (oW (fe hr (ac 3) am) (lO (fe hr (aI hr (ac 2)) aa)))) (ak (aq (c4 (gD T) hr (lc (c4 (gE T) hr (lc (ac 0) (l1 (ac 1)))) (l1 (ac 5)))))) aJ)
  (ak (aq (ac 5))))))))))))) rfl
theorem cu(T:Txt P w K mg):∀n:Nat,zn P w K mg base (4+n) "tally_of_often" 3 (bS n)/\zn P w K mg base (4+n) "tally_of" 3 (fy n)
 |0=>⟨.zero T.o_tally_of_often,.zero T.o_tally_of⟩
 |n+1=>let ⟨h0,h1⟩:=cu T n;⟨fR T n h0 h1,ld T n h0 h1⟩
def iU:aD:=fy 12
def lg(T:Txt P w K mg):zn P w K mg base 16 "tally_of" 3 iU:=(cu T 12).2
def ku:aD:=aZ 3 (C.j_ iU)
def qh(T:Txt P w K mg):zn P w K mg base 17 "tally" 3 ku:=eP ["house","d","trace"] T.o_tally (fun _ _ _ _ _ _ _ hr nd=>(ak (aq (c4 (lg T) hr (lc (aI hr (ac 0)) (lc (aI hr (dL hr (aI hr (ac 0)) (ac 1))) (l1 (ac 2)))))))) rfl
def gS:aD:=aZ 5 C.dZ
def kw(T:Txt P w K mg):zn P w K mg base 1 "_law_deal" 2 gS:=eP ["_law_script","_law_base","_law_one","_law_some","_law_number"] T.o__law_deal (fun _ _ _ _ _ _ _ hr nd=>(ad (uv [] 1 [] ["_law_one"] 3 nd (dE (cX (ac 0) (dU (ac 1)) (dU aa))) (fun _=>(gn 0 wB)) (fun _=>cb) (fun _=>(cB (gk rfl) T.A_ (lc (ac 0) (l1 (ao cg aa (ac 0)))))))
  (ad (s4 4 nd (ao aB aa (ac 1)))
  (ad (gN Gr rfl (dE (ac 3)) (gn 2 nd) (ak (s4 4 nd (ao cP (ao aB (ao ba (ac 4) aa) (ao cP (ac 2) aa)) aa))))
  (ak (aq (uo (j4 am (ac 4) (j4 am aa (j4 am (uq m_ rfl (qy [] 1 [] ["_law_one"] (dE (ac 3)) (fun _=>(gn 0 wB)) (fun _=>(we (bH xQ (ac 0) (ao pA aa aa) (a9 _)))) (fun _=>(ac 0))) rfl T.CP rfl T.BE) um)))))))))) rfl
def w__law_draw:aD:=aZ 5 C.d0
def af(T:Txt P w K mg):zn P w K mg base 1 "_law_draw" 2 w__law_draw:=eP ["_law_deal_here","_law_many_here","_law_number","_law_one","_law_other"] T.o__law_draw (fun _ _ _ _ _ _ _ hr nd=>(ad (fG Gr (qv (oW (fe hr (dL hr (ac 0) am) aa) (lO (bH ny (cB dW T.zZ (l1 (dL hr (ac 0) am))) aa (a9 _))))) (ak (jx (sF hr) (xU uu v_ (dL hr (ac 0) am)) (ac 0) am)))
  (ad (s4 2 nd (dL hr (ac 0) am))
  (ad (bm (bH ny (ac 2) aa (a9 _)) (ad (jx (sF hr) (ao fk (ac 2) (ac 1)) (ac 0) am)
  (ak (aq (ao cP (ac 2) (ac 1))))) aJ)
  (ad (s4 3 nd (ao cP (ao aB (ao ba (dL hr (ac 0) am) aa) aa) aa))
  (ad (jx (sF hr) (ao cP (ao aB (ao ba (ac 3) aa) aa) aa) (ac 0) am)
  (ad (s4 4 nd (ao cP (ao ba (dL hr (ac 0) am) (dL hr (ac 0) am)) aa))
  (ak (aq (ao cP (ao aB (ao ba (ao cP (ao ba (ac 3) (ac 3)) aa) aa) (ac 4)) (ac 1))))))))))) rfl
def bN:aD:=aZ 11 (C.cZ w__law_draw)
def cJ(T:Txt P w K mg):zn P w K mg base 2 "_law_words" 2 bN:=eP ["_law_deal_here","_law_many_here","_law_letters","_law_taken","_law_k","_law_core","_law_at","_law_turn","_law_near","_law_found","_law_name"] T.o__law_words (fun _ _ _ _ _ _ _ hr nd=>(ad (s4 2 nd am)
  (ad (s4 3 nd (cy (lc am (lc am (lc am (lc am (lc am (lc am (lc am (lc am (lc am (l1 am))))))))))))
  (ad (s4 5 nd (sG mz ph am (l1 (qy ["_law_letters","_law_deal_here"] 1 [0,2] ["_law_k","_law_deal_here","_law_letters"] (bz rfl rfl T.zg (l1 (c4 (af T) hr (lc (ac 0) (l1 aa))))) (fun _=>(gn 0 xX)) (fun _=>cb) (fun _=>(dL hr (ac 2) (c4 (af T) hr (lc (ac 1) (l1 aa)))))))))
  (ad (rN (i:=6) (j:=7) (k:=8) rfl nd rfl rfl rfl rfl rfl rfl (ap (lc (c4 (af T) hr (lc (ac 0) (l1 (ao aB (cB dW T.zZ (l1 (ac 5))) aa)))) (lc (c4 (af T) hr (lc (ac 0) (l1 aa))) (l1 (oS (mq (iu hr)) (c4 (af T) hr (lc (ac 0) (l1 aa))) aa (a9 _)))))))
  (ad (s4 9 nd (cy gJ))
  (ad (gN Gr rfl (bz rfl rfl T.zg (l1 (ac 1))) (gn 4 nd) (ad (s4 10 nd (ao aB (ao aB (cX (ac 5) gj (dU (ac 6))) (dL hr (ac 2) (ao cP (ao aB (ac 7) (ac 4)) aa))) (cX (ac 5) (dU (ac 6)) gj)))
  (ad (bm (vU (vT (ac 8))) (ak (s4 10 nd (sG mz ph am (l1 (qy ["_law_letters","_law_deal_here"] 1 [0,2] ["_law_j","_law_deal_here","_law_letters"] (bz rfl rfl T.zg (l1 (ao aB aa (c4 (af T) hr (lc (ac 0) (l1 aa)))))) (fun _=>(gn 0 xY)) (fun _=>cb) (fun _=>(dL hr (ac 2) (c4 (af T) hr (lc (ac 1) (l1 aa)))))))))) aJ)
  (ad (fG Gr (qv (kP (bH (oY (mw hr)) (ac 10) (ac 3) rfl) (il (bH (oY (mw hr)) (ac 10) (ac 9) rfl)))) (ak (s4 10 nd (ao aB (dL hr (ac 2) (ao cP (ao aB (sG pE rM (ac 2) (l1 (aI hr (ac 10)))) aa) aa)) (cX (ac 10) (dU aa) gj)))))
  (ak (io (sG cQ dY (ac 9) (l1 (ac 10)))))))))
  (ak (aq (ac 9)))))))))) rfl
def dz:aD:=aZ 4 C.fm
def gT(T:Txt P w K mg):zn P w K mg base 1 "_law_low" 2 dz:=eP ["_law_top","_law_bottom","_law_one","_law_other"] T.o__law_low (fun _ _ _ _ _ _ _ hr nd=>(ad (sD (i:=2) (j:=3) rfl nd rfl rfl (by decide) rfl rfl (lc (cB (gk rfl) T.A_ (lc (ac 0) (l1 (ao cg aa (ac 0))))) (l1 (ac 1))))
  (ad (fG Gr (bH ny (ac 3) aa (a9 _)) (ak (sD (i:=2) (j:=3) rfl nd rfl rfl (by decide) rfl rfl (lc (ac 3) (l1 (ao cP (ac 2) (ac 3)))))))
  (ak (aq (ap (lc (ao fk (ac 0) (ac 2)) (l1 (ao fk (ac 1) (ac 2)))))))))) rfl
def eI:aD:=aZ 2 (C.d_ dz)
def kx(T:Txt P w K mg):zn P w K mg base 2 "_law_plus" 2 eI:=eP ["_law_one","_law_other"] T.o__law_plus (fun _ _ _ _ _ _ _ hr nd=>(ak (aq (c4 (gT T) hr (lc (ao aB (ao ba (aI hr (ac 0)) (aI hr (ac 1))) (ao ba (aI hr (ac 1)) (aI hr (ac 0)))) (l1 (ao ba (aI hr (ac 0)) (aI hr (ac 1))))))))) rfl
def cE:aD:=aZ 2 (C.d4 w__law_draw dz)
def fS(T:Txt P w K mg):zn P w K mg base 2 "_law_cost" 1 cE:=eP ["_law_deal_here","_law_form"] T.o__law_cost (fun _ _ _ _ _ _ _ hr nd=>(ad (s4 1 nd (c4 (af T) hr (lc (ac 0) (l1 aa))))
  (ad (bm (fe hr (ac 1) aa) (ak (aq (ap (lc aa (l1 aa))))) aJ)
  (ad (bm (bH lV (ac 1) aa (a9 _)) (ak (aq (ap (lc (ao aB aa (c4 (af T) hr (lc (ac 0) (l1 aa)))) (l1 aa))))) aJ)
  (ak (aq (c4 (gT T) hr (lc (c4 (af T) hr (lc (ac 0) (l1 aa))) (l1 (ao aB aa (c4 (af T) hr (lc (ac 0) (l1 aa))))))))))))) rfl
def cF:aD:=aZ 4 (C.d5 w__law_draw cE)
def dA(T:Txt P w K mg):zn P w K mg base 3 "_law_leaf" 2 cF:=eP ["_law_deal_here","_law_jars","_law_form","_law_many_here"] T.o__law_leaf (fun _ _ _ _ _ _ _ hr nd=>(ad (s4 2 nd (c4 (af T) hr (lc (ac 0) (l1 aa))))
  (ad (bm (fe hr (ac 2) aa) (ak (aq (ap (l1 am)))) aJ)
  (ad (bm (qv (kP (bH lV (ac 2) aa (a9 _)) (il (fe hr (cB dW T.zZ (l1 (ac 1))) aa)))) (ak (aq (ap (lc am (l1 (c4 (fS T) hr (l1 (ac 0)))))))) aJ)
  (ad (s4 3 nd (dL hr (cy (lc aa (lc aa (l1 (ao aB aa (c4 (af T) hr (lc (ac 0) (l1 aa)))))))) (c4 (af T) hr (lc (ac 0) (l1 aa)))))
  (ak (aq (ap (lc am (lc (dL hr (ac 1) (c4 (af T) hr (lc (ac 0) (l1 (cB dW T.zZ (l1 (ac 1))))))) (l1 (ac 3)))))))))))) rfl
noncomputable def cG:Nat->aD
 |0=>rX
 |n+1=>aZ 8 (C.d6 w__law_draw cF (cG n))
def eJ:aD:=cG 12
def fT(T:Txt P w K mg):zn P w K mg base 15 "_law_body" 4 eJ:=nz (b:=3) (r:=cG) T.o__law_body (fun n R0=>eP ["_law_deal_here","_law_jars","_law_left","_law_down","_law_form","_law_one","_law_other","_law_many_here"] T.o__law_body (fun _ _ _ _ _ _ _ hr nd=>(ad (s4 4 nd (c4 (af T) hr (lc (ac 0) (l1 aa))))
  (ad (bm (qv (kP (fe hr (ac 3) aa) (kP (bH lV (aI hr (ac 2)) aa (a9 _)) (il (bH lV (ac 4) aa (a9 _)))))) (ak (aq (c4 (dA T) hr (lc (ac 0) (l1 (ac 1)))))) aJ)
  (ad (bm (bH lV (ac 4) aa (a9 _)) (ad (jx (sF hr) (ao cg (aI hr (ac 2)) aa) (ac 2) aa)
  (ak (aq (ap (lc am (l1 (c4 R0 hr (lc (ac 0) (lc (ac 1) (lc (ac 2) (l1 (ao cg (ac 3) aa)))))))))))) aJ)
  (ad (jx (sF hr) (ao cg (aI hr (ac 2)) aa) (ac 2) aa)
  (ad (s4 5 nd (c4 R0 hr (lc (ac 0) (lc (ac 1) (lc (ac 2) (l1 (ao cg (ac 3) aa)))))))
  (ad (s4 6 nd (c4 R0 hr (lc (ac 0) (lc (ac 1) (lc (ac 2) (l1 (ao cg (ac 3) aa)))))))
  (ad (bm (bH lV (ac 4) aa (a9 _)) (ak (aq (ap (lc am (lc (ac 5) (l1 (ac 6))))))) aJ)
  (ad (bm (qv (kP (fe hr (ac 4) aa) (il (fe hr (cB dW T.zZ (l1 (ac 1))) aa)))) (ak (aq (ap (lc am (lc (ac 5) (l1 (ac 6))))))) aJ)
  (ad (s4 7 nd (dL hr (cy (lc aa (lc aa (lc aa (l1 (ao aB aa (c4 (af T) hr (lc (ac 0) (l1 aa))))))))) (c4 (af T) hr (lc (ac 0) (l1 aa)))))
  (ak (aq (ap (lc am (lc (dL hr (ac 1) (c4 (af T) hr (lc (ac 0) (l1 (cB dW T.zZ (l1 (ac 1))))))) (lc (ac 7) (lc (ac 5) (l1 (ac 6))))))))))))))))))) rfl) rfl rfl 12
noncomputable def bh:Nat->aD
 |0=>rX
 |n+1=>aZ 1 (C.bM (bh n))
def bi:aD:=bh 12
def cv(T:Txt P w K mg):zn P w K mg base 12 "_law_pass_count" 1 bi:=nz (b:=0) (r:=bh) T.o__law_pass_count (fun n R0=>eP ["_law_body_here"] T.o__law_pass_count (fun _ _ _ _ _ _ _ hr nd=>(ad (bm (fe hr (aI hr (ac 0)) am) (ak (aq (ao ba (c4 R0 hr (l1 (aI hr (ac 0)))) (c4 R0 hr (l1 (aI hr (ac 0))))))) aJ)
  (ad (bm (qv (kP (fe hr (aI hr (ac 0)) am) (il (fe hr (aI hr (ac 0)) am)))) (ak (aq (ao aB (c4 R0 hr (l1 (dL hr (ac 0) (kQ dR aa)))) (c4 R0 hr (l1 (dL hr (ac 0) (kQ dR aa))))))) aJ)
  (ak (aq aa))))) rfl) rfl rfl 12
noncomputable def bb:Nat->aD
 |0=>rX
 |n+1=>aZ 1 (C.bE bi (bb n))
def cw:aD:=bb 12
def eW(T:Txt P w K mg):zn P w K mg base 24 "_law_round_count" 1 cw:=nz (b:=12) (r:=bb) T.o__law_round_count (fun n R0=>eP ["_law_body_here"] T.o__law_round_count (fun _ _ _ _ _ _ _ hr nd=>(ad (bm (fe hr (aI hr (ac 0)) am) (ak (aq (ao aB (c4 (cv T) hr (l1 (aI hr (ac 0)))) (c4 R0 hr (l1 (aI hr (ac 0))))))) aJ)
  (ad (bm (bH (oY (mw hr)) (aI hr (ac 0)) (ap (lc am (lc am (l1 am)))) rfl) (ak (aq (ao aB (c4 R0 hr (l1 (dL hr (ac 0) (kQ dR aa)))) (c4 R0 hr (l1 (dL hr (ac 0) (kQ dR aa))))))) aJ)
  (ak (aq aa))))) rfl) rfl rfl 12
def bT:aD:=aZ 5 (C.bP eJ bi cw cF)
def fU(T:Txt P w K mg):zn P w K mg base 25 "_law_deed_body" 4 bT:=eP ["_law_deal_here","_law_jars","_law_room","_law_most","_law_body_here"] T.o__law_deed_body (fun _ _ _ _ _ _ _ hr nd=>(ad (s4 4 nd (c4 (fT T) hr (lc (ac 0) (lc (ac 1) (lc (cy (l1 (ao cg (ac 2) aa))) (l1 aa))))))
  (ad (bm (bH ny (ao aB (c4 (cv T) hr (l1 (ac 4))) (c4 (eW T) hr (l1 (ac 4)))) (ac 3) (a9 _)) (ak (s4 4 nd (ap (lc am (lc (ap (lc am (l1 (c4 (dA T) hr (lc (ac 0) (l1 (ac 1))))))) (l1 (c4 (dA T) hr (lc (ac 0) (l1 (ac 1)))))))))) aJ)
  (ak (aq (ac 4)))))) rfl
def dB:aD:=aZ 9 (C.c_ bN w__law_draw bT)
def i6(T:Txt P w K mg):zn P w K mg base 26 "_law_house" 4 dB:=eP ["_law_deal_here","_law_most_jars","_law_most_deeds","_law_room","_law_words_here","_law_jars","_law_first","_law_many_here","_law_deeds"] T.o__law_house (fun _ _ _ _ _ _ _ hr nd=>(ad (s4 4 nd (c4 (cJ T) hr (lc (ac 0) (l1 aa))))
  (ad (s4 5 nd (cT bg T.yO (l1 (cX (ac 4) gj (dU (c4 (af T) hr (lc (ac 0) (l1 (ao aB (ac 1) aa)))))))))
  (ad (s4 6 nd (dL hr (cy (lc aa (l1 aa))) (c4 (af T) hr (lc (ac 0) (l1 aa)))))
  (ad (s4 7 nd (ao aB aa (c4 (af T) hr (lc (ac 0) (l1 (ac 2))))))
  (ad (uv ["_law_words_here","_law_room","_law_many_here","_law_jars","_law_first","_law_deal_here"] 1 [0,6,5,7,3,4] ["_law_k","_law_deal_here","_law_first","_law_jars","_law_many_here","_law_room","_law_words_here"] 8 nd (bz rfl rfl T.zg (l1 (ac 7))) (fun _=>(gn 0 xZ)) (fun _=>cb) (fun _=>(ap (lc (dL hr (ac 6) (ao aB (ac 2) (ac 0))) (l1 (c4 (fU T) hr (lc (ac 1) (lc (ac 3) (lc (ac 5) (l1 (ao fk aa (ac 4))))))))))))
  (ak (aq (ap (lc (ac 5) (l1 (cT bg T.yO (l1 (ac 8)))))))))))))) rfl
def bU:aD:=aZ 4 (C.bQ w__law_draw dB bN eJ)
def fV(T:Txt P w K mg):zn P w K mg base 27 "_law_any_house" 1 bU:=eP ["_law_deal_here","_law_words_here","_law_jars","_law_many_here"] T.o__law_any_house (fun _ _ _ _ _ _ _ hr nd=>(ad (bm (fe hr (c4 (af T) hr (lc (ac 0) (l1 aa))) aa) (ak (aq (c4 (i6 T) hr (lc (ac 0) (lc aa (lc aa (l1 aa))))))) aJ)
  (ad (s4 1 nd (c4 (cJ T) hr (lc (ac 0) (l1 aa))))
  (ad (s4 2 nd (cT bg T.yO (l1 (cX (ac 1) gj (dU (c4 (af T) hr (lc (ac 0) (l1 aa))))))))
  (ad (s4 3 nd (ao aB aa (c4 (af T) hr (lc (ac 0) (l1 aa)))))
  (ak (aq (ap (lc (ac 2) (l1 (cT bg T.yO (l1 (qy ["_law_words_here","_law_jars","_law_deal_here"] 1 [0,2,1] ["_law_k","_law_deal_here","_law_jars","_law_words_here"] (bz rfl rfl T.zg (l1 (ac 3))) (fun _=>(gn 0 x8)) (fun _=>cb) (fun _=>(ap (lc (dL hr (ac 3) (ao aB aa (ac 0))) (l1 (c4 (fT T) hr (lc (ac 1) (lc (ac 2) (lc (cy (l1 aa)) (l1 aa)))))))))))))))))))))) rfl
noncomputable def bC:Nat->aD
 |0=>rX
 |n+1=>aZ 9 (C.b8 w__law_draw (bC n))
def b_:aD:=bC 12
def gF(T:Txt P w K mg):zn P w K mg base 13 "_law_trace_to" 4 b_:=nz (b:=1) (r:=bC) T.o__law_trace_to (fun n R0=>eP ["_law_deal_here","_law_body_here","_law_left","_law_wide","_law_one","_law_side","_law_found","_law_k","_law_many_here"] T.o__law_trace_to (fun _ _ _ _ _ _ _ hr nd=>(ad (bm (fe hr (aI hr (ac 1)) am) (ad (s4 4 nd (c4 R0 hr (lc (ac 0) (lc (aI hr (ac 1)) (lc (ac 2) (l1 (ac 3)))))))
  (ak (aq (ap (lc (ac 4) (l1 (c4 R0 hr (lc (ac 0) (lc (aI hr (ac 1)) (lc (ac 2) (l1 (ac 3)))))))))))) aJ)
  (ad (bm (qv (kP (fe hr (aI hr (ac 1)) am) (il (fe hr (aI hr (ac 1)) am)))) (ad (s4 5 nd (c4 (af T) hr (lc (ac 0) (l1 aa))))
  (ak (aq (ap (lc (ac 5) (l1 (c4 R0 hr (lc (ac 0) (lc (dL hr (ac 1) (ao cg (ac 5) aa)) (lc (ac 2) (l1 (ac 3)))))))))))) aJ)
  (ad (s4 6 nd (cy gJ))
  (ad (gN Gr rfl (bz rfl rfl T.zg (l1 (ao ba (c4 (af T) hr (lc (ac 0) (l1 aa))) (cT sB T.Cq (l1 (oS (mq (iu hr)) (aI hr (ac 1)) am (a9 _))))))) (gn 7 nd) (ak (bm (bH ny (aI hr (ac 2)) aa (a9 _)) (ad (jx (sF hr) (ao cg (aI hr (ac 2)) aa) (ac 2) aa)
  (ad (s4 8 nd (ao aB aa (c4 (af T) hr (lc (ac 0) (l1 (dL hr (cy (lc aa (l1 (ac 3)))) (c4 (af T) hr (lc (ac 0) (l1 aa)))))))))
  (ak (io (sG cQ dY (ac 6) (l1 (ap (lc (ac 8) (l1 (c4 R0 hr (lc (ac 0) (lc (aI hr (ac 1)) (lc (ac 2) (l1 (ac 3))))))))))))))) aJ)))
  (ak (aq (cT bg T.yO (l1 (ac 6)))))))))) rfl) rfl rfl 12
def bX:aD:=aZ 4 (C.cH eI)
def bo(T:Txt P w K mg):zn P w K mg base 3 "_law_joined" 2 bX:=eP ["_law_one","_law_other","_law_effect","_law_demand"] T.o__law_joined (fun _ _ _ _ _ _ _ hr nd=>(ad (uv ["_law_other","_law_one"] 1 [0,1] ["_law_k","_law_one","_law_other"] 2 nd (bz rfl rfl T.zg (l1 (cB dW T.zZ (l1 (aI hr (ac 0)))))) (fun _=>(gn 0 sJ)) (fun _=>cb) (fun _=>(ao aB (dL hr (aI hr (ac 1)) (ac 0)) (dL hr (aI hr (ac 2)) (ac 0)))))
  (ad (uv ["_law_other","_law_one"] 1 [0,1] ["_law_k","_law_one","_law_other"] 3 nd (bz rfl rfl T.zg (l1 (cB dW T.zZ (l1 (aI hr (ac 0)))))) (fun _=>(gn 0 sJ)) (fun _=>cb) (fun _=>(cB (gk rfl) T.A_ (lc (dL hr (aI hr (ac 1)) (ac 0)) (l1 (ao cg (dL hr (aI hr (ac 2)) (ac 0)) (dL hr (aI hr (ac 1)) (ac 0))))))))
  (ak (aq (ap (lc (c4 (kx T) hr (lc (aI hr (ac 0)) (l1 (aI hr (ac 1))))) (lc (ac 2) (l1 (ac 3)))))))))) rfl
def eL:aD:=aZ 3 (C.eg bX)
def ky(T:Txt P w K mg):zn P w K mg base 4 "_law_many" 2 eL:=eP ["_law_one","_law_many_here","_law_found"] T.o__law_many (fun _ _ _ _ _ _ _ hr nd=>(ad (s4 2 nd (ap (lc (ap (lc aa (l1 aa))) (lc (qy [] 1 [] ["_law_number"] (dE (aI hr (ac 0))) (fun _=>(gn 0 p7)) (fun _=>cb) (fun _=>aa)) (l1 (qy [] 1 [] ["_law_number"] (dE (aI hr (ac 0))) (fun _=>(gn 0 p7)) (fun _=>cb) (fun _=>aa)))))))
  (ad (fG Gr (bH ny (ac 1) aa (a9 _)) (ad (bm (fe hr (ao cP (ac 1) aa) aa) (ak (s4 2 nd (c4 (bo T) hr (lc (ac 2) (l1 (ac 0)))))) aJ)
  (ad (s4 0 nd (c4 (bo T) hr (lc (ac 0) (l1 (ac 0)))))
  (ak (s4 1 nd (ao fk (ac 1) aa))))))
  (ak (aq (ac 2)))))) rfl
def fW:aD:=aZ 4 C.dh
def cK(T:Txt P w K mg):zn P w K mg base 1 "_law_moved" 3 fW:=eP ["_law_names","_law_jar","_law_many_here","_law_effect"] T.o__law_moved (fun _ _ _ _ _ _ _ hr nd=>(ad (uv ["_law_many_here","_law_jar"] 1 [1,2] ["_law_name","_law_jar","_law_many_here"] 3 nd (dE (ac 0)) (fun _=>(gn 0 wC)) (fun _=>cb) (fun _=>(ao ba (ac 2) (cT sB T.Cq (l1 (oS (mq (iu hr)) (ac 0) (ac 1) (a9 _)))))))
  (ak (aq (ap (lc (ap (lc aa (l1 aa))) (lc (ac 3) (l1 (qy [] 1 [] ["_law_number"] (dE (ac 3)) (fun _=>(gn 0 p7)) (fun _=>cb) (fun _=>(cB (gk rfl) T.A_ (lc aa (l1 (ao cg aa (ac 0))))))))))))))) rfl
noncomputable def ck:Nat->aD
 |0=>rX
 |n+1=>aZ 7 (C.di fW bX eL (ck n))
def dC:aD:=ck 12
def i8(T:Txt P w K mg):zn P w K mg base 16 "_law_tally" 3 dC:=nz (b:=4) (r:=ck) T.o__law_tally (fun n R0=>eP ["_law_names","_law_body_here","_law_trace","_law_found","_law_word","_law_many_here","_law_one"] T.o__law_tally (fun _ _ _ _ _ _ _ hr nd=>(ad (s4 3 nd (c4 (cK T) hr (lc (ac 0) (lc am (l1 aa)))))
  (ad (s4 4 nd (aI hr (ac 1)))
  (ad (bm (fe hr (ac 4) am) (ak (aq (ap (lc (aI hr (ac 1)) (lc (aI hr (ac 3)) (l1 (aI hr (ac 3)))))))) aJ)
  (ad (bm (fe hr (ac 4) am) (ak (aq (c4 (cK T) hr (lc (ac 0) (lc (aI hr (ac 1)) (l1 (aI hr (ac 1)))))))) aJ)
  (ad (bm (fe hr (ac 4) am) (ak (aq (c4 (bo T) hr (lc (c4 R0 hr (lc (ac 0) (lc (aI hr (ac 1)) (l1 (aI hr (ac 2)))))) (l1 (c4 R0 hr (lc (ac 0) (lc (aI hr (ac 1)) (l1 (aI hr (ac 2))))))))))) aJ)
  (ad (bm (qv (kP (fe hr (ac 4) am) (il (fe hr (ac 4) am)))) (ad (bm (qv (oW (fe hr (ac 4) am) (lO (fe hr (aI hr (ac 2)) aa)))) (ak (s4 3 nd (c4 (cK T) hr (lc (ac 0) (lc (aI hr (ac 1)) (l1 (ao cg aa (aI hr (ac 1))))))))) aJ)
  (ak (aq (c4 (bo T) hr (lc (ac 3) (l1 (c4 R0 hr (lc (ac 0) (lc (dL hr (ac 1) (ao cg (aI hr (ac 2)) aa)) (l1 (aI hr (ac 2)))))))))))) aJ)
  (ad (bm (fe hr (ac 4) am) (ak (gN Gr rfl (dE (ac 2)) (u7 rfl (bD (gn 5 nd) (bD (gn 6 nd) jv))) (ak (s4 3 nd (c4 (bo T) hr (lc (ac 3) (l1 (c4 (ky T) hr (lc (c4 R0 hr (lc (ac 0) (lc (aI hr (ac 1)) (l1 (ac 6))))) (l1 (ac 5))))))))))) aJ)
  (ak (aq (ac 3))))))))))) rfl) rfl rfl 12
def bF(y_ yF zW:aD):bx:=(ah (az 1 (ar aL [(ae y_ [(v3 0),(c3 (.int 1))])]))
  (ah (az 2 (aC [(c3 (.str "either")),(aC [(c3 (.str "put")),(ai aj (v3 1) (c3 (.int 0))),(ai aR (c3 (.int 1)) (ae yF [(v3 0),(c3 (.int 9))]))]),(aC [(c3 (.str "pay")),(ae zW [(v3 0)])])]))
  (ah (az 2 (aC [(c3 (.str "either")),(v3 2),(aC [(c3 (.str "take")),(ai aj (v3 1) (c3 (.int 0))),(ai aR (c3 (.int 1)) (ae yF [(v3 0),(c3 (.int 9))])),(aC [(c3 (.str "rest"))]),(aC [(c3 (.str "rest"))])])]))
  (ah (az 3 (dG []))
  (ah (dI (dH (ai aR (c3 (.int 30)) (ae yF [(v3 0),(c3 (.int 20))]))) (.n 4) (ah (az 5 (ai aj (dG [(aC [(c3 (.int 0)),(aC [(c3 (.int 0)),(aC [])])]),(aC [(c3 (.int 0)),(aC [(c3 (.int 1)),(aC [])])]),(aC [(c3 (.int 1)),(aC [(c3 (.int 0)),(aC [])])])]) (ae yF [(v3 0),(c3 (.int 3))])))
  (fb (kB "list" bK (v3 3) [(aC [(ai aR (c3 (.int 1)) (ae yF [(v3 0),(ai aj (dG [(c3 (.int 3)),(ai lU (c3 (.int 10)) (c3 (.int 6)))]) (ae yF [(v3 0),(c3 (.int 2))]))])),(v3 5)])]))))
  (aE (aC [(aC [(v3 1),(aC [(aC [(c3 (.str "a")),(aC [(c3 (.str "often")),(v3 2)])])])]),(c3 (.int 0)),(ar aL [(v3 3)])])))))))
def bG:aD:=aZ 6 (bF bN w__law_draw cE)
def eX(T:Txt P w K mg):zn P w K mg base 3 "_law_many_goings" 1 bG:=eP ["_law_deal_here","_law_jars","_law_body_here","_law_goings","_law_k","_law_one"] T.o__law_many_goings (fun _ _ _ _ _ _ _ hr nd=>(ad (s4 1 nd (cT bg T.yO (l1 (c4 (cJ T) hr (lc (ac 0) (l1 aa))))))
  (ad (s4 2 nd (ap (lc am (lc (ap (lc am (lc (aI hr (ac 1)) (l1 (ao aB aa (c4 (af T) hr (lc (ac 0) (l1 aa)))))))) (l1 (ap (lc am (l1 (c4 (fS T) hr (l1 (ac 0)))))))))))
  (ad (s4 2 nd (ap (lc am (lc (ac 2) (l1 (ap (lc am (lc (aI hr (ac 1)) (lc (ao aB aa (c4 (af T) hr (lc (ac 0) (l1 aa)))) (lc (ap (l1 am)) (l1 (ap (l1 am)))))))))))))
  (ad (s4 3 nd (cy gJ))
  (ad (gN Gr rfl (bz rfl rfl T.zg (l1 (ao aB aa (c4 (af T) hr (lc (ac 0) (l1 aa)))))) (gn 4 nd) (ad (s4 5 nd (dL hr (cy (lc (ap (lc aa (l1 (ap (lc aa (l1 (ap gJ))))))) (lc (ap (lc aa (l1 (ap (lc aa (l1 (ap gJ))))))) (l1 (ap (lc aa (l1 (ap (lc aa (l1 (ap gJ))))))))))) (c4 (af T) hr (lc (ac 0) (l1 aa)))))
  (ak (io (sG cQ dY (ac 3) (l1 (ap (lc (ao aB aa (c4 (af T) hr (lc (ac 0) (l1 (dL hr (cy (lc aa (l1 (ao pA aa aa)))) (c4 (af T) hr (lc (ac 0) (l1 aa)))))))) (l1 (ac 5))))))))))
  (ak (aq (ap (lc (ap (lc (ac 1) (l1 (ap (l1 (ap (lc am (l1 (ap (lc am (l1 (ac 2)))))))))))) (lc aa (l1 (cT bg T.yO (l1 (ac 3))))))))))))))) rfl
def qi(Bv yF An AG AO Bm Cl:aD):bx:=(ah (az 1 (ae Bv [(v3 0),(c3 (.int 0))]))
  (ah (az 2 (dG []))
  (ah (bW (a_ (ai (bJ false) (ae yF [(v3 1),(c3 (.int 6))]) (c3 (.int 0)))) (fb (kB "list" bK (v3 2) [(ae An [(v3 1)])])) aX)
  (ah (dI (dH (c3 (.int 3))) (.n 3) (ah (az 4 (ae AG [(v3 1)]))
  (ah (az 5 (ae yF [(v3 1),(ar eS [(ai aj (v3 4) (c3 (.int 1)))])]))
  (fb (kB "list" bK (v3 2) [(aC [(v3 4),(v3 5),(ae AO [(v3 1),(ai aj (ai aj (ai aj (v3 4) (c3 (.int 1))) (v3 5)) (c3 (.int 1))),(dG [(c3 (.int 8))]),(ai lU (c3 (.int 10)) (c3 (.int 6)))])])])))))
  (ah (dI (bL (ai aR (v3 2) (b4 (v3 2) o8 (ng (c3 (.int 1)))))) (.tp (.cons (.n 4) (.cons (.n 5) (.cons (.n 6) .nil)))) (ah (nl (ae Bm [(ai aj (v3 4) (c3 (.int 0))),(ai aj (ai aj (ai aj (v3 4) (c3 (.int 1))) (v3 5)) (c3 (.int 1))),(v3 6)]) (.tp (.cons (.n 7) (.cons (.n 8) (.cons (.n 9) .nil)))))
  (bW (a_ (ai (bJ true) (ar jt [(ae Cl [(v3 4),(v3 5),(v3 6)])]) (ar jt [(aC [(v3 7),(ar aL [(v3 8)]),(ar aL [(v3 9)])])]))) (aE (c3 (.bl false))) aX)))
  (aE (c3 (.bl true))))))))
def lh:aD:=aZ 10 (qi gS w__law_draw bG bU b_ dC ku)
def uQ(T:Txt P w K mg){f:Addr}{fd:FuncData}(O:wP K mg "law" (bp 38) ["_law_script"] f fd):CI P w K mg base 28 f fd ["_law_script"] lh:=yB ["_law_script","_law_deal_here","_law_asked","_law_turn","_law_house_here","_law_d","_law_trace","_law_cost_here","_law_effect","_law_demand"] O (fun _ _ _ _ _ _ _ hr nd=>(ad (s4 1 nd (c4 (kw T) hr (lc (ac 0) (l1 aa))))
  (ad (s4 2 nd (cy gJ))
  (ad (bm (fe hr (c4 (af T) hr (lc (ac 1) (l1 aa))) aa) (ak (io (sG cQ dY (ac 2) (l1 (c4 (eX T) hr (l1 (ac 1))))))) aJ)
  (ad (gN Gr rfl (bz rfl rfl T.zg (l1 aa)) (gn 3 nd) (ad (s4 4 nd (c4 (fV T) hr (l1 (ac 1))))
  (ad (s4 5 nd (c4 (af T) hr (lc (ac 1) (l1 (cB dW T.zZ (l1 (aI hr (ac 4))))))))
  (ak (io (sG cQ dY (ac 2) (l1 (ap (lc (ac 4) (lc (ac 5) (l1 (c4 (gF T) hr (lc (ac 1) (lc (aI hr (dL hr (aI hr (ac 4)) (ac 5))) (lc (cy (l1 aa)) (l1 (ao pA aa aa)))))))))))))))))
  (ad (gN Gr rfl (dE (ao aB (ac 2) (cX (ac 2) gj (dU aa)))) (u7 rfl (bD (gn 4 nd) (bD (gn 5 nd) (bD (gn 6 nd) jv)))) (ad (wb (c4 (i8 T) hr (lc (aI hr (ac 4)) (lc (aI hr (dL hr (aI hr (ac 4)) (ac 5))) (l1 (ac 6))))) (u7 rfl (bD (gn 7 nd) (bD (gn 8 nd) (bD (gn 9 nd) jv)))))
  (ak (bm (yg hr (cB (o_ (iu hr) hr.gd) T.B5 (l1 (c4 (qh T) hr (lc (ac 4) (lc (ac 5) (l1 (ac 6))))))) (cB (o_ (iu hr) hr.gd) T.B5 (l1 (ap (lc (ac 7) (lc (cT bg T.yO (l1 (ac 8))) (l1 (cT bg T.yO (l1 (ac 9)))))))))) (ak (aq vS)) aJ))))
  (ak (aq vS)))))))) rfl
end
end G20
namespace G20
open PySem L2 L3 Wd
open C
def wQ(v:PV):Prop:=∃(js:Vs) (ds:List (Str×Bd)) (i n:Nat) (z:Str) (t:Bd) (tr:PV),v = .tup [sI js ds,.int i,tr]/\js.length<=8/\ds[i]?=some (z,t)/\t.good js []/\aK t tr=true/\b9 (2 ^ 60) tr=true/\Ay 50 n tr/\t.dep<=6
def uR{n:Nat}(h:n < 2 ^ 1900):n.log2 < 1920:=by
 by_cases h0:n=0
 ·subst h0;decide
 ·exact(Nat.log2_lt h0).mpr (IS h (HG (by decide) (by decide)))
def yC:tB 6=((2 ^ 424:Nat):Int):=by decide +kernel
def big(n:Nat)(h:n<=2 ^ 424):n < 2 ^ 1900:=HS h (HG (by decide) (by decide))
def kz{S:au}{i:Int}(h1:-tB 6<=i)(h2:i<=tB 6):Sh S (.int i) (.int i) 1921 1:=by
 rw[yC]at h1 h2
 exact(Sh.int (uR (big _ (by omega)))).le (FQ _) (by decide)
noncomputable def yD(t:Ty):PyData:=.tuple [.tuple [.int (M3.bc t.1 2520),.int (M3.aO t.1 2520)],.tuple (t.2.map fun p=>.int p.1),.tuple (t.2.map fun p=>.int p.2)]
def sK{S:au}{js:Vs}{t:Ty}(hj:js.length<=8)(h:t.Ok js)(b:t.Bo (tB 6)):Sh S t.pv (yD t) 100000 10:=by
 have p:=gA 6
 have hl:=h.1
 have b0:=cI t.1
 have c:Sh S (cf t.1) (.tuple [.int (M3.bc t.1 2520),.int (M3.aO t.1 2520)]) 5000 5:=
  (Sh.tup ((kz (by have:=eQ h.2.1;omega) (wv h.2.1 b.1)).cons ((kz (S:=S) (by omega) (by omega)).cons (.Df _)))).le (by decide) (by decide)
 have e:Sh S (.tup t.es) (.tuple (t.2.map fun p=>.int p.1)) 20000 5:=
  (Sh.tup (By.map (fun p:Int×Int=>PV.int p.1) (fun p=>PyData.int p.1) (n:=1921) (k:=1) fun q hq=>kz (b.2 q hq).1 (b.2 q hq).2.1)).le (by omega) (by decide)
 have d:Sh S (.tup t.dm) (.tuple (t.2.map fun p=>.int p.2)) 20000 5:=
  (Sh.tup (By.map (fun p:Int×Int=>PV.int p.2) (fun p=>PyData.int p.2) (n:=1921) (k:=1) fun q hq=>kz (by have:=h.2.2 q hq;omega) (b.2 q hq).2.2)).le (by omega) (by decide)
 exact(Sh.tup (c.cons (e.cons (d.cons (.Df _))))).le (by decide) (by decide)
abbrev fz(w:aD):Prop:=∀{S:au} {d l:Addr} {Q:bY} {E:ci},yJ S d l->(∀v S',wQ v->yJ S' d l->zd d l S S'->Q v S')->w [.ref d] S Q E
def AH{xw xc xd:aD}(zr:cR xw)(Av:fH xc)(yG:bf xd):fz (aZ 6 (bF xw xd xc)):=by
 intro S d l Q E D k
 unfold bF
 refine ft ?_
 rw[show ay 6 [PV.ref d]=[some (.ref d),none,none,none,none,none] from rfl]
 refine av fun N hN=>?_
 walk_at "x"
 refine zr D (by decide) (by decide) fun p ns S1 hl hnd hw hp BQ hpl hS D1 O1=>?_
 obtain⟨z,rfl⟩:∃z,ns=[z]:=by
  match ns,hl with
  |[z],_=>exact⟨z,rfl⟩
 simp only[hS,Gd,HJ]
 refine hN _ _ (av fun N hN=>?_)
 walk_at "x"
 simp only[iC]
 refine yG D1 (by decide) (by decide) fun m1 S2 a0 a1 D2 O2=>?_
 refine Av D2 fun x y S3 hc D3 O3=>?_
 refine hN _ _ (av fun N hN=>?_)
 walk_at "x"
 simp only[iC]
 refine yG D3 (by decide) (by decide) fun m2 S4 b0 b1 D4 O4=>?_
 refine hN _ _ (av fun N hN=>?_)
 walk_at "x"
 intro pf hpf
 have E2:zd d l S S4:=O1.trans (O2.trans (O3.trans O4))
 have AZ:=D4.free hpf
 have D5:yJ (aw S4 pf (.lst [])) d l:=D4.new hpf
 have Dy:zd d l S (aw S4 pf (.lst [])):=E2.trans (.new hpf)
 have f5:(aw S4 pf (.lst [])) pf=some (.lst []):=ab
 have FI:S pf=none:=by
  cases h:S pf with
  |none=>rfl
  |some o=>rw[E2 _ _ h AZ.1 AZ.2]at hpf;cases hpf
 generalize aw S4 pf (.lst [])=S5 at D5 Dy f5
 refine hN _ _ (av fun N hN=>?_)
 simp only[dI,dH,ai,ae,bZ,v3,lk,c3]
 refine yG D5 (by decide) (by decide) fun r S6 r0 r1 D6 O6=>?_
 simp only[aR]
 refine⟨by omega,by omega,?_⟩
 obtain⟨rr,er⟩:∃rr:Nat,30+r=(rr:Int):=⟨(30+r).toNat,by omega⟩
 rw[er,GO]
 obtain⟨B,hB⟩:∃B:Bd,B = .zY (.zY (.put z (1+m1)) (.pay x y)) (.As z (1+m2) .rest .rest):=⟨_,rfl⟩
 have eB:PV.tup [.str "either",.tup [.str "either",.tup [.str "put",.str z,.int (1+m1)],.tup [.str "pay",.tup [.int x,.int y]]],.tup [.str "take",.str z,.int (1+m2),.tup [.str "rest"],.tup [.str "rest"]]]=B.pv:=by rw[hB];rfl
 rw[eB]
 refine cz (fun done σ S'=>∃(vs:List PV) (x4 x5:Option PV),σ=[some (.ref d),some (.tup [.str z]),some B.pv,some (.ref pf),x4,x5]/\vs.length=done.length/\done.length<=rr/\(∀v∈vs,lZ B v=true/\Ay 50 5 v/\b9 (2 ^ 60) v=true)/\yJ S' d l/\S' pf=some (.lst vs)/\zd d l S S') ⟨[],_,_,rfl,rfl,Gv _,by simp,D6,O6 _ _ f5 AZ.1 AZ.2,Dy.trans O6⟩ (fun _ _ _ _=>trivial) ?_ ?_
 ·rintro done w rest σ S7 K e ⟨vs,x4,x5,rfl,hv,hdl,hvs,D7,f7,O7⟩ hK
  obtain⟨rfl,hi⟩:=fL e
  simp only[Tg.put,List.set_cons_succ,List.set_cons_zero]
  refine av fun N2 AY=>?_
  walk_at "x"
  intro pl hpl
  have Dk:=D7.free hpl
  have Eo:pf≠pl:=fun h=>by rw[h,hpl]at f7;cases f7
  refine yG (D7.new hpl) (by decide) (by decide) fun g S8 g0 g1 D8 O8=>?_
  have p8:=O8 _ _ (ab (S:=S7) (a:=pl)) Dk.1 Dk.2
  have f8:=O8 _ _ (by rw[al Eo];exact f7) AZ.1 AZ.2
  have FJ:zd d l S S8:=O7.trans ((zd.new hpl).trans O8)
  simp only[p8]
  obtain⟨one,h1,h2⟩:=cA (xs:=[PV.tup [.int 0,.tup [.int 0,.tup []]],.tup [.int 0,.tup [.int 1,.tup []]],.tup [.int 1,.tup [.int 0,.tup []]]]) g0 (by simpa using g1)
  rw[h1]
  have good:aK B one=true/\Ay 50 4 one/\b9 (2 ^ 60) one=true:=by
   have t0:Ay 50 1 (.tup []):=.tup (by decide) (by simp)
   have t2:∀{n:Nat} {i:Int} {v:PV},Ay 50 n v->Ay 50 (n+1) (.tup [.int i,v]):=fun h=>Ay.two (by decide) (.int _) h
   simp only[F2,F9,GY]at h2
   rcases h2 with rfl|rfl|rfl
   ·exact⟨by rw[hB];rfl,(t2 (t2 t0)).mono (FQ _) (by decide),by decide⟩
   ·exact⟨by rw[hB];rfl,(t2 (t2 t0)).mono (FQ _) (by decide),by decide⟩
   ·exact⟨by rw[hB];rfl,(t2 (t2 t0)).mono (FQ _) (by decide),by decide⟩
  dsimp only
  refine AY _ _ ?_
  walk_at "x"
  simp only[f8,true_and]
  refine⟨⟨by decide,by decide,by decide⟩,fun pq hpq=>?_⟩
  rw[show((10:Int) ^ Int.toNat 6)=1000000 from rfl]at *
  have dpq:=D8.free hpq
  have FK:pf≠pq:=fun h=>by rw[h,hpq]at f8;cases f8
  refine yG (D8.new hpq) (by decide) (by decide) fun q S9 q0 q1 D9 O9=>?_
  have p9:=O9 _ _ (ab (S:=S8) (a:=pq)) dpq.1 dpq.2
  have f9:=O9 _ _ (by rw[al FK];exact f8) AZ.1 AZ.2
  have FL:zd d l S S9:=FJ.trans ((zd.new hpq).trans O9)
  simp only[p9]
  obtain⟨w,CM,Cj⟩:=cA (xs:=[PV.int 3,.int 1000000]) q0 (by simpa using q1)
  rw[CM]
  obtain⟨ww,rfl,FB,FC⟩:∃ww,w = .int ww/\1<=ww/\ww<=2 ^ 59:=by
   simp only[F2,F9,GY]at Cj
   rcases Cj with rfl|rfl
   ·exact⟨3,rfl,by omega,by omega⟩
   ·exact⟨1000000,rfl,by omega,by omega⟩
  dsimp only
  refine yG D9 (by omega) (by omega) fun m Sa m0 m1 Da Oa=>?_
  have fa:=Oa _ _ f9 AZ.1 AZ.2
  simp only[fa]
  refine⟨F1 (show _ < 1000 by omega) (by decide),?_⟩
  refine hK _ _ ⟨vs++[.tup [.int (1+m),one]],_,_,rfl,by simp[hv],by rw[F3];exact hi,fun u hu=>?_,Da.upd AZ.1 AZ.2,ab,?_⟩
  ·rcases Gh.mp hu with hu|hu
   ·exact hvs u hu
   ·rw[Gi.mp hu]
    refine⟨?_,Ay.two (by decide) (.int _) good.2.1,fO (iI (by omega)) good.2.2⟩
    show(decide (1<=1+m)&&aK B one)=true
    rw[good.1,Bool.and_true,FT]
    omega
  ·intro b o hb h1 h2
   have Ep:b≠pf:=fun h=>by rw[h,FI]at hb;cases hb
   rw[al Ep]
   exact Oa _ _ (FL _ _ hb h1 h2) h1 h2
 ·rintro σ S7 ⟨vs,x4,x5,rfl,hv,hdl,hvs,D7,f7,O7⟩
  refine hN _ _ ?_
  walk_at "x"
  simp only[f7]
  refine k _ S7 ⟨[z],[("a",.Ai B)],0,6,"a",.Ai B,.tup vs,rfl,show 1<=8 by decide,rfl,?_,?_,?_,?_,?_⟩ D7 O7
  ·rw[hB]
   exact⟨⟨⟨by simp,by omega,by omega⟩,hc⟩,by simp,by omega,by omega,trivial,trivial⟩
  ·rw[iG,Gz]
   exact fun v hv'=>(hvs v hv').1
  ·exact k7 fun v hv'=>(hvs v hv').2.2
  ·exact .tup (by omega) fun v hv'=>(hvs v hv').2.1
  ·rw[hB];exact show 4<=6 by decide
abbrev sa(w:aD):Prop:=∀{ns:Vu} {S:au} {Q:bY} {E:ci},ns.length<=63->(∀S',Q (.bl true) S')->w [.cl (ns.map PV.int)] S Q E
def uS{x0 x1 x2 x3 x4 x5 x6:aD}(Bg:kZ x0)(yG:bf x1)(AH:fz x2)(BC:ki x3)(Dn:eA 6 x4)(Bl:eG 6 x5)(A3:gB x6):sa (aZ 10 (qi x0 x1 x2 x3 x4 x5 x6)):=by
 intro ns S Q E hns k
 unfold qi
 refine ft ?_
 rw[show ay 10 [PV.cl (ns.map PV.int)]=[some (.cl (ns.map PV.int)),none,none,none,none,none,none,none,none,none] from rfl]
 refine av fun N hN=>?_
 walk_at "x"
 refine Bg hns (by decide) (by decide) fun d l S1 _ _ D1 _=>?_
 refine hN _ _ (av fun N hN=>?_)
 walk_at "x"
 intro pa hpa
 have BK:=D1.free hpa
 have D2:yJ (aw S1 pa (.lst [])) d l:=D1.new hpa
 have f2:(aw S1 pa (.lst [])) pa=some (.lst []):=ab
 generalize aw S1 pa (.lst [])=S2 at D2 f2
 refine hN _ _ (av fun N hN=>?_)
 -- from here on: any row of good ones
 have rest:∀(vs:List PV) (S3:au),vs.length<=1->(∀v∈vs,wQ v)->yJ S3 d l->S3 pa=some (.lst vs)->N [some (.cl (ns.map PV.int)),some (.ref d),some (.ref pa),none,none,none,none,none,none,none] S3:=by
  intro vs S3 hl hvs D3 f3
  refine hN _ _ (av fun N hN=>?_)
  simp only[dI,dH,c3]
  refine⟨by decide,by decide,?_⟩
  refine cz (fun done σ S'=>∃(us:List PV) (y3 y4 y5:Option PV),σ=[some (.cl (ns.map PV.int)),some (.ref d),some (.ref pa),y3,y4,y5,none,none,none,none]/\us.length<=1+done.length/\done.length<=3/\(∀v∈us,wQ v)/\yJ S' d l/\S' pa=some (.lst us)) ⟨vs,_,_,_,rfl,hl,by decide,hvs,D3,f3⟩ (fun _ _ _ _=>trivial) ?_ ?_
  ·rintro done w rest σ S4 K e ⟨us,y3,y4,y5,rfl,hu,hdl,CU,D4,f4⟩ hK
   obtain⟨rfl,hi⟩:=fL e
   simp only[Tg.put,List.set_cons_succ,List.set_cons_zero]
   refine av fun N2 AY=>?_
   walk_at "x"
   refine BC D4 fun js ds S5 ho hd1 hd4 Dz D5 O5=>?_
   have f5:=O5 _ _ f4 BK.1 BK.2
   refine AY _ _ (av fun N2 AY=>?_)
   rw[show sI js ds = .tup [eV js,.tup (ds.map mC)] from rfl]
   walk_at "x"
   simp only[eU,FZ]
   refine yG D5 (by omega) (by omega) fun i S6 i0 i1 D6 O6=>?_
   have f6:=O6 _ _ f5 BK.1 BK.2
   obtain⟨ii,rfl⟩:=G3 i0
   have E4:ii < ds.length:=by omega
   have hds:ds[ii]?=some (ds[ii].1,ds[ii].2):=GF E4
   have hm:ds[ii]∈ds:=List.getElem_mem E4
   refine AY _ _ ?_
   walk_at "x"
   simp only[f6,true_and,eU]
   rw[bq (v:=mC (ds[ii].1,ds[ii].2)) (by rw[F4,hds];rfl)]
   unfold mC
   simp only[eU]
   refine fun px hpx=>⟨⟨by decide,by decide,by decide⟩,?_⟩
   rw[show((10:Int) ^ Int.toNat 6)=1000000 from rfl]
   have E5:=D6.free hpx
   have E6:pa≠px:=fun h=>by rw[h,hpx]at f6;cases f6
   refine Dn (D6.new hpx) ab E5.1 E5.2 (by decide) (by decide) (by decide) (ho.dq _ hm) fun tr S7 lf h1 h2 h3 _ _ _ D7 _ O7=>?_
   have f7:=O7 _ _ (by rw[al E6];exact f6) BK.1 BK.2 E6
   simp only[f7]
   refine⟨F1 (show _ < 1000 by omega) (by decide),?_⟩
   refine hK _ _ ⟨us++[.tup [sI js ds,.int ii,tr]],_,_,_,rfl,by simp;omega,by rw[F3];exact hi,fun v hv=>?_,D7.upd BK.1 BK.2,ab⟩
   rcases Gh.mp hv with hv|hv
   ·exact CU v hv
   ·rw[Gi.mp hv]
    exact⟨js,ds,ii,_,ds[ii].1,ds[ii].2,tr,rfl,Dz,hds,ho.gd _ hm,h1,h3,h2.mono (by decide) (FQ _),ho.dq _ hm⟩
  ·rintro σ S4 ⟨us,y3,y4,y5,rfl,hu,hdl,CU,D4,f4⟩
   refine hN _ _ (av fun N hN=>?_)
   walk_at "x"
   simp only[f4]
   intro p1 hp1
   have FM:pa≠p1:=fun h=>by rw[h,hp1]at f4;cases f4
   simp only[al FM,f4,ab]
   have cl:(zm us none (some 1)).length<=us.length:=by unfold zm;rw[GS,GU];omega
   refine⟨eE (by omega),fun p2 hp2=>?_⟩
   have hall:∀v∈us++zm us none (some 1),wQ v:=fun v hv=>by
    rcases Gh.mp hv with hv|hv
    ·exact CU v hv
    ·exact CU v (by unfold zm at hv;exact HF (GZ hv))
   have f6:(aw (aw S4 p1 (.lst (zm us none (some 1)))) p2 (.lst (us++zm us none (some 1)))) p2=some (.lst (us++zm us none (some 1))):=ab
   generalize aw (aw S4 p1 (.lst (zm us none (some 1)))) p2 (.lst (us++zm us none (some 1)))=S6 at f6
   generalize us++zm us none (some 1)=ws at f6 hall
   refine cz (fun done σ S'=>∃(y3 y4 y5 y6 y7 y8 y9:Option PV),σ=[some (.cl (ns.map PV.int)),some (.ref d),some (.ref pa),y3,y4,y5,y6,y7,y8,y9]/\S' p2=some (.lst ws)) ⟨_,_,_,_,_,_,_,rfl,f6⟩ (fun _ _ _ ⟨_,_,_,_,_,_,_,_,h⟩=>h) ?_ ?_
   ·rintro done w rest σ S7 K e ⟨y3,y4,y5,y6,y7,y8,y9,rfl,f7⟩ hK
    obtain⟨js,ds,i,n,z,t,tr,rfl,Dz,hi,hg,htr,hib,FN,B1⟩:=hall w (by rw[e];simp)
    have ok:=aQ t tr hg htr
    have bn:=(cC t tr n hg htr FN hib).mono (dv B1)
    simp only[Tg.put,Tg.zB,List.set_cons_succ,List.set_cons_zero]
    refine av fun N2 AY=>?_
    rw[show sI js ds = .tup [eV js,.tup (ds.map mC)] from rfl]
    simp only[nl,ae,bZ,ai,v3,lk,c3,aj,iC,eU]
    rw[bq (v:=mC (z,t)) (by rw[F4,hi];rfl)]
    unfold mC
    simp only[eU]
    refine Bl (us:=[]) (by omega) hg htr B1 fun x S8 X8 L8=>?_
    obtain⟨pe,pd,rfl,e8,d8⟩:=L8
    simp only[Tg.put,Tg.zB,List.set_cons_succ,List.set_cons_zero]
    refine AY _ _ ?_
    simp only[bW,a_,ai,ar,ae,bZ,v3,lk,c3,aC]
    refine A3 (js:=js) (us:=[]) (ds:=ds) (by omega) hi hg htr hib B1 fun S9 X9=>?_
    refine k5 (sK Dz ok bn) (by decide) (by decide) ?_
    simp only[aL,lR,X9 _ _ e8,X9 _ _ d8]
    refine k5 (sK Dz ok bn) (by decide) (by decide) ?_
    simp only[bJ,decide_true,Iw,Bool.not_true,IV,Jd,aX]
    exact hK _ _ ⟨_,_,_,_,_,_,_,rfl,X9 _ _ (X8 _ _ f7)⟩
   ·rintro σ S7 ⟨y3,y4,y5,y6,y7,y8,y9,rfl,f7⟩
    refine hN _ _ ?_
    walk_at "x"
    exact k S7
 walk_at "x"
 refine yG D2 (by decide) (by decide) fun r S3 r0 r1 D3 O3=>?_
 have f3:=O3 _ _ f2 BK.1 BK.2
 simp only[F5,FT]
 split
 ·simp only[f3,true_and]
  refine AH D3 fun v S4 hv D4 O4=>?_
  have f4:=O4 _ _ f3 BK.1 BK.2
  simp only[f4]
  refine⟨by decide,?_⟩
  exact rest [v] _ (by simp) (fun u hu=>by rw[Gi.mp hu];exact hv) (D4.upd BK.1 BK.2) ab
 ·exact rest [] S3 (by simp) (by simp) D3 f3
def dD:bf w__law_draw:=yG
def sL:g7 dz:=AX
def kA:cR bN:=zr dD
def qj:fH cE:=Av dD sL
def qk:fI cF:=Ab dD qj
theorem l8:∀n,eu n (cG n)
 |0=>fun _ _ _ _ _ _ _ h0 h1 _=>by omega
 |n+1=>Ax dD qk n (l8 n)
theorem li:∀n,bR n (bh n)
 |0=>fun h _ _=>absurd h (by have:=Bd.zA;exact IW.mpr (this _))
 |n+1=>nF n (li n)
def lj:bR 12 bi:=li 12
theorem ll:∀n,n<=12->dk n (bb n)
 |0,_=>fun h _ _=>absurd h (by have:=Bd.zA;exact IW.mpr (this _))
 |n+1,hn=>nG n 12 lj (ll n (by omega)) (by omega)
def x9:dr bT:=ke 12 (by decide) (l8 12) lj (ll 12 (by decide)) qk
def sd:fu dB:=nI kA dD x9
def wD:ki bU:=BC dD sd kA 12 (by decide) (l8 12)
theorem qm:∀n,eA n (bC n)
 |0=>fun _ _ _ _ _ _ _ h _=>absurd h (by have:=Bd.zA;exact IW.mpr (this _))
 |n+1=>rZ dD n (qm n)
def uT:eA 6 b_:=fun a b c d e f g h k=>qm 12 a b c d e f g (F6 h (by decide)) k
def uU:cS l6:=Az (Ad Ac)
def se:gx kr:=A0 (Ad Ac)
def lm:dt cU:=zo A1 uU
def sf:gy hG:=A2 Bi se
def qo:fw bB:=AF zf
theorem sM:∀n,fP ((n+1) / 2) (fy n)/\iQ (n / 2) (bS n)
 |0=>⟨fun _ _ _ _ h _=>absurd h (by have:=Bd.zA;exact IW.mpr (this _)),fun _ _ _ _ h _=>absurd h (by have:=Bd.zA;exact IW.mpr (this _))⟩
 |n+1=>by
  obtain⟨a,b⟩:=sM n
  refine⟨?_,?_⟩
  ·rw[show(n+1+1) / 2=n / 2+1 by omega]
   exact fun{S js us t v Q E} h1 h2 h3 h4 h5 h6=>BD Ae zf lm AE qo (n / 2) b (fun g1 g2 g3 g4 g5 g6=>a g1 g2 g3 g4 (F6 g5 (by omega)) g6) (S:=S) (js:=js) (us:=us) (t:=t) (v:=v) (Q:=Q) (E:=E) h1 h2 h3 h4 h5 h6
  ·exact fun{S js us t v Q E} h1 h2 h3 h4 h5 h6=>nM (s0:=bS n) Ae lm sf ((n+1) / 2) a (S:=S) (js:=js) (us:=us) (a:=t) (v:=v) (Q:=Q) (E:=E) h1 h2 h3 h4 h5 h6
def sg:gB ku:=A3 (sM 12).1
def sh:cS eI:=pQ sL
def mN:eR bX:=pX sh
def si:gC eL:=pY mN
theorem qp:∀n,eG n (ck n)
 |0=>fun _ _ _ h _=>absurd h (by have:=Bd.zA;exact IW.mpr (this _))
 |n+1=>Bl nN mN si n (qp n)
def uV:eG 6 dC:=fun a b c h k=>qp 12 a b c (F6 h (by decide)) k
def qq:fz bG:=AH kA qj dD
def qr:∀ns:List Int,ns.length<=63->lh [.cl (ns.map PV.int)] (fun _=>none) (fun v _=>v = .bl true) fc:=fun ns h=>uS Bg dD qq wD uT uV sg h fun _=>rfl
end G20
namespace L3
open PySem L2 Xc
def uW{P:List Value->Prop}(h:∀a,P [a])(us:Vv)(hl:us.length=1):P us:=match us,hl with|[_],_=>h _
def kC{P:List Value->Prop}(h:∀a b,P [a,b])(us:Vv)(hl:us.length=2):P us:=match us,hl with|[_,_],_=>h _ _
def u_{P:List Value->Prop}(h:∀a b c,P [a,b,c])(us:Vv)(hl:us.length=3):P us:=match us,hl with|[_,_,_],_=>h _ _ _
def wR{P:List Value->Prop}(h:∀a b c d,P [a,b,c,d])(us:Vv)(hl:us.length=4):P us:=match us,hl with|[_,_,_,_],_=>h _ _ _ _
section
variable {K:Vo} {h:Heap} {mg:Vr} {x c m q:Str} {st:Stmt} {ps fl:Vs}
noncomputable def sj:Option (Option Value)->Bool
 |some none=>true
 |_=>false
def sk{o:Option (Option Value)}(h:sj o=true):o=some none:=by
 unfold sj at h;split at h
 ·rfl
 ·cases h
def FnAt(K:Vo)(f:Addr)(m q:Str)(st:Stmt):Prop:=∃(oc kV doc pm cdv ct:Value) (od an:Option Addr) (osl:Array (Option Value)),
 K.lookup f=some ⟨oc,od,.func (PySem.W.fnOf m q (cx st) (bA st) (aH st) .none kV doc pm an cdv ct),osl⟩/\PySem.W.codeIn K cdv q=true/\PySem.W.keepIn K (.ref f)=true
abbrev qt(m q:Str)(st:Stmt)(ps:Vs):Prop:=∀(kV doc pm:Value) (an:Option Addr) (cdv ct:Value) (us:Vv),us.length=ps.length->bindArgs (PySem.W.fnOf m q (cx st) (bA st) (aH st) .none kV doc pm an cdv ct) ⟨us,[]⟩=pure (ps.zip us)
def FnAt.mk{f:Addr}(a:FnAt K f m q st)(hb:qt m q st ps):∃fd,Co K m q st f fd/\Binds K fd ps []/\PySem.W.keepIn K (.ref f)=true:=by
 obtain⟨oc,kV,doc,pm,cdv,ct,od,an,osl,l,cc,k⟩:=a
 exact⟨_,jQ l cc k,(jQ l cc k).binds hb,k⟩
def zL(K:Vo)(x:Str)(st:Stmt):Prop:=∃f,PySem.W.nsIn K mainGlobals x=some (some (.ref f))/\FnAt K f x x st
def zL.own(X:K.In h)(G:h.Ns mainGlobals mg)(a:zL K x st)(hb:qt x x st ps):bd K mg x st ps:=by
 obtain⟨f,n,a⟩:=a
 obtain⟨fd,F,b,k⟩:=a.mk hb
 exact⟨f,fd,F,b,k,PySem.W.mg_of X G n⟩
def zL.law{fa:Addr}(X:K.In h)(G:h.Ns mainGlobals mg)(a:zL K x st)(hfa:mg x=some (.ref fa))(hb:qt x x st ps):∃kV doc pm an cdv ct,wP K mg x st ps fa (PySem.W.fnOf x x (cx st) (bA st) (aH st) .none kV doc pm an cdv ct):=by
 obtain⟨f,n,oc,kV,doc,pm,cdv,ct,od,an,osl,l,cc,k⟩:=a
 cases hfa.symm.trans (PySem.W.mg_of X G n)
 exact⟨kV,doc,pm,an,cdv,ct,jQ l cc k,(jQ l cc k).binds hb,k,hfa⟩
def i9(X:K.In h)(G:h.Ns mainGlobals mg){l:Vs}(a:(l.all fun x=>sj (PySem.W.nsIn K mainGlobals x))=true)(hx:x∈l:=by decide):mg x=none:=PySem.W.mg_none_of X G (sk (Gz.mp a x hx))
section
variable {f C:Addr} {oc kV doc pm cdv ct:Value} {od an:Option Addr} {osl:Array (Option Value)}
def yE(n:PySem.W.nsIn K mainGlobals x=some (some (.ref f)))(l:K.lookup f=some ⟨oc,od,.func (PySem.W.fnOf x x (cx st) (bA st) (aH st) .none kV doc pm an cdv ct),osl⟩)(cc:PySem.W.codeIn K cdv x=true)(k:PySem.W.keepIn K (.ref f)=true):zL K x st:=⟨f,n,oc,kV,doc,pm,cdv,ct,od,an,osl,l,cc,k⟩
end
end
end L3
namespace G20
open PySem L2 L3
def uX{l:PySem.W.OpenLaw}{w:World}{K:Vo}{h:Heap}{mg:Vr}{fa:Addr}(X:K.In h)(G:h.Ns mainGlobals mg)(hfa:mg "law" = some (.ref fa))
  (Ao:zL K "common" (bp 1))
  (zN:zL K "fraction" (bp 2))
  (A6:zL K "plus" (bp 3))
  (AI:zL K "times" (bp 4))
  (Ap:zL K "chosen" (bp 6))
  (zC:zL K "things_of" (bp 8))
  (AJ:zL K "added" (bp 9))
  (zt:zL K "multiplied" (bp 10))
  (zO:zL K "no_tally" (bp 11))
  (Aq:zL K "behind" (bp 12))
  (AK:zL K "again" (bp 13))
  (yV:zL K "tally_of_often" (bp 14))
  (zb:zL K "tally_of_take" (bp 15))
  (zP:zL K "tally_of" (bp 16))
  (AL:zL K "tally" (bp 17))
  (zD:zL K "_law_deal" (bp 19))
  (zE:zL K "_law_draw" (bp 20))
  (zu:zL K "_law_words" (bp 21))
  (zQ:zL K "_law_low" (bp 22))
  (zF:zL K "_law_plus" (bp 23))
  (zG:zL K "_law_cost" (bp 24))
  (zH:zL K "_law_leaf" (bp 25))
  (zI:zL K "_law_body" (bp 26))
  (yR:zL K "_law_pass_count" (bp 27))
  (yP:zL K "_law_round_count" (bp 28))
  (yW:zL K "_law_deed_body" (bp 29))
  (zv:zL K "_law_house" (bp 30))
  (yX:zL K "_law_any_house" (bp 31))
  (zc:zL K "_law_trace_to" (bp 32))
  (zk:zL K "_law_joined" (bp 33))
  (zJ:zL K "_law_many" (bp 34))
  (zw:zL K "_law_moved" (bp 35))
  (zx:zL K "_law_tally" (bp 36))
  (yQ:zL K "_law_many_goings" (bp 37))
  (BR:((["abs","int","len","list","max","range","repr","reversed","tuple","zip"]:Vs).all fun x=>sj (PySem.W.nsIn K mainGlobals x))=true)
  (B7:zL K "law" (bp 38))
  : ∃fd:FuncData,(∀(s:Shared) (v:Value),BindsTo s fd ⟨[v],[]⟩ [("_law_script",v)])/\∀base:Heap,K.In base->base.Ns mainGlobals mg->jJ l.prog w K mg base sx 28 fa fd ["_law_script"] (wf K 1 lh):=by
 obtain⟨kV,doc,pm,an,cdv,ct,O⟩:=B7.law X G hfa (ps:=["_law_script"]) (fun _ _ _ _ _ _=>uW fun _=>rfl)
 exact⟨_,fun s v=>.of_eq rfl,fun base _ _=>(uQ (P:=l.prog) (w:=w) (base:=base) ⟨Ao.own X G (fun _ _ _ _ _ _=>kC fun _ _=>rfl),
  zN.own X G (fun _ _ _ _ _ _=>kC fun _ _=>rfl),
  A6.own X G (fun _ _ _ _ _ _=>kC fun _ _=>rfl),
  AI.own X G (fun _ _ _ _ _ _=>kC fun _ _=>rfl),
  Ap.own X G (fun _ _ _ _ _ _=>kC fun _ _=>rfl),
  zC.own X G (fun _ _ _ _ _ _=>u_ fun _ _ _=>rfl),
  AJ.own X G (fun _ _ _ _ _ _=>kC fun _ _=>rfl),
  zt.own X G (fun _ _ _ _ _ _=>kC fun _ _=>rfl),
  zO.own X G (fun _ _ _ _ _ _=>uW fun _=>rfl),
  Aq.own X G (fun _ _ _ _ _ _=>kC fun _ _=>rfl),
  AK.own X G (fun _ _ _ _ _ _=>kC fun _ _=>rfl),
  yV.own X G (fun _ _ _ _ _ _=>u_ fun _ _ _=>rfl),
  zb.own X G (fun _ _ _ _ _ _=>kC fun _ _=>rfl),
  zP.own X G (fun _ _ _ _ _ _=>u_ fun _ _ _=>rfl),
  AL.own X G (fun _ _ _ _ _ _=>u_ fun _ _ _=>rfl),
  zD.own X G (fun _ _ _ _ _ _=>kC fun _ _=>rfl),
  zE.own X G (fun _ _ _ _ _ _=>kC fun _ _=>rfl),
  zu.own X G (fun _ _ _ _ _ _=>kC fun _ _=>rfl),
  zQ.own X G (fun _ _ _ _ _ _=>kC fun _ _=>rfl),
  zF.own X G (fun _ _ _ _ _ _=>kC fun _ _=>rfl),
  zG.own X G (fun _ _ _ _ _ _=>uW fun _=>rfl),
  zH.own X G (fun _ _ _ _ _ _=>kC fun _ _=>rfl),
  zI.own X G (fun _ _ _ _ _ _=>wR fun _ _ _ _=>rfl),
  yR.own X G (fun _ _ _ _ _ _=>uW fun _=>rfl),
  yP.own X G (fun _ _ _ _ _ _=>uW fun _=>rfl),
  yW.own X G (fun _ _ _ _ _ _=>wR fun _ _ _ _=>rfl),
  zv.own X G (fun _ _ _ _ _ _=>wR fun _ _ _ _=>rfl),
  yX.own X G (fun _ _ _ _ _ _=>uW fun _=>rfl),
  zc.own X G (fun _ _ _ _ _ _=>wR fun _ _ _ _=>rfl),
  zk.own X G (fun _ _ _ _ _ _=>kC fun _ _=>rfl),
  zJ.own X G (fun _ _ _ _ _ _=>kC fun _ _=>rfl),
  zw.own X G (fun _ _ _ _ _ _=>u_ fun _ _ _=>rfl),
  zx.own X G (fun _ _ _ _ _ _=>u_ fun _ _ _=>rfl),
  yQ.own X G (fun _ _ _ _ _ _=>uW fun _=>rfl),
  i9 (x:="abs") X G BR,
  i9 (x:="int") X G BR,
  i9 (x:="len") X G BR,
  i9 (x:="list") X G BR,
  i9 (x:="max") X G BR,
  i9 (x:="range") X G BR,
  i9 (x:="repr") X G BR,
  i9 (x:="reversed") X G BR,
  i9 (x:="tuple") X G BR,
  i9 (x:="zip") X G BR⟩ O).ok⟩
def x_{l:PySem.W.OpenLaw}{q:Program}{loose:Vs}{XP:(Vr)->Heap->Prop}{YP:World->Heap->Prop}{d:DefRec}{K:Params->PySem.W.Frag}(hn:l.most=some 63)(hdf:d.params.defaults=[])
  (hY:∀(w:World) (h:Heap),YP w h->(K w.params).In h)
  (F:∀(w:World) (mg:Vr) (fa:Addr) (h:Heap),(K w.params).In h->h.Ns mainGlobals mg->mg d.name=some (.ref fa)->
   ∃fd:FuncData,(∀(s:Shared) (u:Value),BindsTo s fd ⟨[u],[]⟩ [("_law_script",u)])/\∀base:Heap,(K w.params).In base->base.Ns mainGlobals mg->jJ l.prog w (K w.params) mg base sx 28 fa fd ["_law_script"] (wf (K w.params) 1 lh)) :
  PySem.W.WalkO q loose XP YP l.row.toRowW d [] (fun f vs=>PySem.call f vs):=
 L2.rf (n:=63) (k:=28) (x:="_law_script") (CX:=fun _=>sx) (sp:=fun w=>wf (K w.params) 1 lh) hn (by decide) hdf ⟨rfl,by decide,by decide,rfl⟩ hY F (fun _ _ a ns hl hO hS=>xR hO hS (qr ns hl)) fun _ _ _ _ _ z=>z
end G20
local macro_rules | `(tactic| walk_at "k")=>`(tactic| (apply L3.yE; k_is; k_is; k_is; k_is))
open PySem PySem.W PyProof.Rows
set_option maxRecDepth 100000 in
set_option maxHeartbeats 0 in
theorem PySem.Challenge.cw_dueworth_k20_tallies_of_traces_holds : PySem.Challenge.rw_dueworth_k20_tallies_of_traces.Holds := by
 w_on; refine holds_law E20.said fun said => ?_
 refine holds_open (q := E20.vw) (loose := []) (Xt := fun s => (xlAt E20.vw [] s && recOk (RowW.records E20.rr) s)) (XP := XL E20.vw []) (N := 2296)
  (Yf := Hook.obs E20.hk) (Ya := Hook.val E20.hk) (YP := Hook.says (kHook E20.early.heap_1 E20.as E20.ya)) E20.left (Hook.of E20.hk) (Hook.keeps E20.hk) (fun s e => xl_of s (HC.mp e).1)
  XL.keeps rfl rfl rfl (fun s e => recFacts_of (HC.mp e).2) rfl (by assumption)
  (by decide +kernel) ⟨rfl, rfl, rfl, rfl, rfl, by decide +kernel⟩ ?hw ?hc
 (case hw => w_witness2)
 k_fill
 refine G20.x_ (l := PySem.Challenge.rw_dueworth_k20_tallies_of_traces) rfl rfl (fun w h Y => PySem.W.kIn_of Y) ?F
 case F =>
  intro w mg fa h KX G hmg
  refine' G20.uX KX G hmg ?Ao ?zN ?A6 ?AI ?Ap ?zC ?AJ ?zt ?zO ?Aq ?AK ?yV ?zb ?zP ?AL ?zD ?zE ?zu ?zQ ?zF ?zG ?zH ?zI ?yR ?yP ?yW ?zv ?yX ?zc ?zk ?zJ ?zw ?zx ?yQ ?BR ?B7
  (case Ao => walk_at "k")
  (case zN => walk_at "k")
  (case A6 => walk_at "k")
  (case AI => walk_at "k")
  (case Ap => walk_at "k")
  (case zC => walk_at "k")
  (case AJ => walk_at "k")
  (case zt => walk_at "k")
  (case zO => walk_at "k")
  (case Aq => walk_at "k")
  (case AK => walk_at "k")
  (case yV => walk_at "k")
  (case zb => walk_at "k")
  (case zP => walk_at "k")
  (case AL => walk_at "k")
  (case zD => walk_at "k")
  (case zE => walk_at "k")
  (case zu => walk_at "k")
  (case zQ => walk_at "k")
  (case zF => walk_at "k")
  (case zG => walk_at "k")
  (case zH => walk_at "k")
  (case zI => walk_at "k")
  (case yR => walk_at "k")
  (case yP => walk_at "k")
  (case yW => walk_at "k")
  (case zv => walk_at "k")
  (case yX => walk_at "k")
  (case zc => walk_at "k")
  (case zk => walk_at "k")
  (case zJ => walk_at "k")
  (case zw => walk_at "k")
  (case zx => walk_at "k")
  (case yQ => walk_at "k")
  (case BR => kernel_rfl)
  (case B7 => walk_at "k")
#print axioms PySem.Challenge.cw_dueworth_k20_tallies_of_traces_holds
